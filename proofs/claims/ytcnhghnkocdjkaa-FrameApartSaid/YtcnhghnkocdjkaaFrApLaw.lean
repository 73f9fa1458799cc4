/-
  The walk of FrameApart. Each statement bears its own conditions.
-/
import Derived.Test.YtcnhghnkocdjkaaFrV
import Derived.Test.YtcnhghnkocdjkaaFrSwLaw
namespace Go.Proofs.Ytcnhghnkocdjkaa
open Go.RowKit
set_option linter.unusedVariables false
set_option linter.unusedSimpArgs false
structure MineRel (n : Nat) (l : List MT) (w : World) (v3 v8 : Value) (wr : World) : Prop where
  ex : ∃ (k : Nat) (A : Option Addr) (c : Nat) (L : List (MT × Value)), k ≤ n ∧ v8 = .int .i64 (k : Int) ∧ v3 = .slice A k c ∧ wr.ownsRow w.heap.size 24 2 (.slice A k c) k (cellsT L) ∧ L.map (·.1) = l.take k ∧
    (∀ q ∈ L, FreshW w.heap.size wr q.2 q.1.ws ∧ I64 q.1.fr ∧ ∀ g, q.2.ownBlock = some g → (Value.slice A k c).ownBlock ≠ some g) ∧ Below w.heap.size w wr
/-- Numbers may turn into other numbers; all else stays. -/
structure Pres (lo hi : Nat) (w w' : World) : Prop where
  cell : ∀ x v, w.cell? x = some v → w'.cell? x = some v ∨ ((∃ z, v = .int .i64 z) ∧ ∃ z', w'.cell? x = some (.int .i64 z'))
  frozen : ∀ x, w'.frozen? x = w.frozen? x
  size : w'.heap.size = w.heap.size
  out : ∀ k, (k < lo ∨ hi ≤ k) → w'.heap[k]? = w.heap[k]?
  os : w'.os = w.os
  tape : w'.tape = w.tape
  output : w'.output = w.output
theorem Pres.refl (lo hi : Nat) (w : World) : Pres lo hi w w := ⟨fun _ _ h => .inl h, fun _ => rfl, rfl, fun _ _ => rfl, rfl, rfl, rfl⟩
theorem Pres.slice {lo hi : Nat} {w w' : World} (h : Pres lo hi w w') {x : Addr} {a : Option Addr} {n c : Nat} (hx : w.cell? x = some (.slice a n c)) : w'.cell? x = some (.slice a n c) := by
  rcases h.cell x _ hx with h1 | ⟨⟨z, hz⟩, _⟩
  · exact h1
  · cases hz
theorem Pres.int {lo hi : Nat} {w w' : World} (h : Pres lo hi w w') {x : Addr} {z : Int} (hx : w.cell? x = some (.int .i64 z)) : ∃ z', w'.cell? x = some (.int .i64 z') := by
  rcases h.cell x _ hx with h1 | ⟨_, h1⟩
  · exact ⟨z, h1⟩
  · exact h1
theorem Pres.set {lo hi : Nat} {w w' : World} (h : Pres lo hi w w') {g o : Nat} {z : Int} (hx : w'.cell? ⟨g, o, none⟩ = some (.int .i64 z)) (hg : lo ≤ g ∧ g < hi) (z' : Int) : Pres lo hi w (w'.setCell ⟨g, o, none⟩ (.int .i64 z')) := by
  have base : ∀ x v, w'.cell? x = some v → (w'.setCell ⟨g, o, none⟩ (.int .i64 z')).cell? x = some v ∨ ((∃ y, v = .int .i64 y) ∧ ∃ y', (w'.setCell ⟨g, o, none⟩ (.int .i64 z')).cell? x = some (.int .i64 y')) := by
    intro x v hv
    by_cases he : (⟨g, o, none⟩ : Addr) = x
    · subst he
      rw [hx] at hv
      injection hv with hv
      exact .inr ⟨⟨z, hv.symm⟩, z', World.cell?_setCell_same _ _ _ hx⟩
    · exact .inl ((World.cell?_setCell_other _ _ _ _ he).trans hv)
  refine ⟨fun x v hv => ?_, fun x => (World.frozen?_setCell _ _ _ _).trans (h.frozen x), by simpa [World.setCell] using h.size, fun k hk => (set_far _ _ (by omega)).trans (h.out k hk), h.os, h.tape, h.output⟩
  rcases h.cell x v hv with h1 | ⟨⟨y, hy⟩, y', h1⟩
  · exact base x v h1
  · rcases base x _ h1 with h2 | ⟨_, h2⟩
    · exact .inr ⟨⟨y, hy⟩, y', h2⟩
    · exact .inr ⟨⟨y, hy⟩, h2⟩
theorem Pres.below {lo hi : Nat} {w w' : World} (h : Pres lo hi w w') : Below lo w w' := ⟨h.os, h.tape, h.output, Nat.le_of_eq h.size.symm, fun k hk => h.out k (.inl hk)⟩
theorem Pres.pf {lo hi l2 h2 g : Nat} {w w' : World} {p : MP} (h : Pres lo hi w w') (hp : PF l2 h2 g w p) (hl : hi ≤ l2) : PF l2 h2 g w' p := by
  obtain ⟨v, q1, q2, q3, q4, q5⟩ := hp.ex
  exact ⟨v, (h.out g (.inr (by omega))).trans q1, q2, q3, by rw [h.size]; exact q4, q5.keep fun k a _ _ => h.out k (.inr (by omega))⟩
theorem own_open {w : World} {base e size n c : Nat} {A : Option Addr} {xs : List Value} (h : w.ownsRow base e size (.slice A n c) n xs) (hn : 0 < n) :
    ∃ M cur, A = some ⟨M, 0, none⟩ ∧ base ≤ M ∧ M < w.heap.size ∧ w.heap[M]? = some (.cells cur e (0, 0)) ∧ ∀ (j : Nat) u, xs[j]? = some u → cur[j]? = some u := by
  rcases h.2 with ⟨h1, h2⟩ | ⟨g, cap, cur, hv, hbg, hg, h1, h2, h3, h4⟩
  · omega
  · injection hv with e1 e2 e3
    refine ⟨g, cur, e1, hbg, ?_, hg, fun j u hu => ?_⟩
    · by_cases hlt : g < w.heap.size
      · exact hlt
      · rw [Array.getElem?_eq_none (by omega)] at hg; cases hg
    · rw [← h4, List.getElem?_take] at hu
      split at hu
      · rw [← Array.getElem?_toList]; exact hu
      · cases hu
theorem PI.step {p : MP} {t : MT} (h : PI p t) (hn : p.next = p.mode) (hb : p.now + 1 < 1099511627776) : PI (stepOf p t) t ∧ (stepOf p t).ts = p.ts ∧ (stepOf p t).mode = p.mode ∧ (stepOf p t).next = p.next ∧ (stepOf p t).now = p.now + 1 := by
  obtain ⟨h1, h2, h3, h4, h5, h6, h7⟩ := h
  unfold stepOf
  by_cases he : p.tick + 1 = t.fr
  · rw [if_pos he]
    refine ⟨⟨h1, h2, by dsimp only; rw [hn]; exact h3, by dsimp only; omega, h5, ⟨by dsimp only; omega, by dsimp only; omega⟩, ⟨by dsimp only; omega, hb⟩⟩, rfl, hn, rfl, rfl⟩
  · rw [if_neg he]
    refine ⟨⟨h1, h2, h3, h4, h5, ⟨by dsimp only; omega, by dsimp only; omega⟩, ⟨by dsimp only; omega, hb⟩⟩, rfl, rfl, rfl, rfl⟩
structure TkRel (l : List MT) (t : MT) (m : Nat) (lo1 hi1 g1 lo2 hi2 g2 lo3 hi3 g3 : Nat) (W1 : World) (v : Value) (wr : World) : Prop where
  ex : ∃ (k : Nat) (st : MP), k ≤ 45 ∧ v = .int .i64 (k : Int) ∧ PF lo1 hi1 g1 wr st ∧ PF lo2 hi2 g2 wr st ∧ PF lo3 hi3 g3 wr ⟨l, m, m, 0, 0⟩ ∧ PI st t ∧ st.ts = l ∧ st.mode = m ∧ st.next = m ∧ st.now = (k : Int) ∧ Below W1.heap.size W1 wr
structure MutRel (n S1 S2 : Nat) (W4 : World) (v : Value) (wr : World) : Prop where
  ex : ∃ i : Nat, i ≤ n ∧ v = .int .i64 (i : Int) ∧ Pres S1 S2 W4 wr
set_option maxRecDepth 100000 in
set_option maxHeartbeats 8000000 in
theorem apart_walk (v : Value) (ts : List MT) (mode : Int) (w : World) (h : Row w 2 (RTc w) v ts) (hmode : I64 mode) :
    Calls Try.prog 7 #[v, .int .i64 mode] w fun e w' => e = .returned (.bool true) ∧ Below w.heap.size w w' := by
  obtain ⟨i0, hi, hz0, hz1, hz2⟩ := frinfo_of tab_info
  obtain ⟨j0, hj, hy0, hy1, hy2⟩ := frinfo_of win_info
  have CL := Lib.hid (little_any v ts w h)
  have HLW := Lib.hid (little_ws ts)
  have HLL := Lib.hid (little_len ts)
  obtain ⟨l, hl⟩ : ∃ l, little ts = l := ⟨_, rfl⟩
  rw [hl] at CL HLW HLL
  obtain ⟨a0, c0, rfl, _⟩ := h.form
  have HMD := Lib.hid hmode
  clear h hl hmode
  go_enter Try.func7, Try.ntmps7
  go_wp2_with fail
  refine CL.out.mono ?_
  rintro e W1 ⟨⟨r, rfl, hr⟩, b1⟩
  obtain ⟨ra0, rc0, rfl, hrm⟩ := hr.form
  have HR := Lib.hid hr
  have B1 := Lib.hid b1
  obtain ⟨n, hn⟩ : ∃ n, l.length = n := ⟨_, rfl⟩
  have HN := Lib.hid hn
  have HM : Hid (n ≤ 9) := by have := HLL.out; unfold Hid; omega
  have CN := Lib.hid fun W (hb : Below W1.heap.size W1 W) (md : Int) (hmd : I64 md) => new_any (.slice ra0 l.length rc0) l md W (HR.out.keep hb fun _ _ h => h.below hb) HLW.out hmd
  rw [hn] at CN
  simp only [hn]
  have hnm : n ≤ 9 := HM.out
  clear CL hr b1 hn hrm
  have HR2 : Hid (Row W1 2 (RT W1) (.slice ra0 n rc0) l) := by have := HR.out; rw [HN.out] at this; exact this
  go_wp2_with fail
  go_loopw [5, 6] (fun v5 v6 wr => MineRel n l W1 v5 v6 wr) (fun _ v => fun _ => n - (intOf v).toNat)
  case atStart => exact ⟨⟨0, none, 0, [], Nat.zero_le _, rfl, rfl, World.ownsRow_nil _ _ _ _, rfl, by simp, Below.refl _ _⟩⟩
  case round =>
    obtain ⟨⟨k, A, c, L, hk, rfl, rfl, ho, hL, hq, hb⟩⟩ := hrel
    have HK := Lib.hid hk
    have HO := Lib.hid ho
    have HL := Lib.hid hL
    have HQ := Lib.hid hq
    have HB := Lib.hid hb
    clear hk ho hL hq hb
    by_cases hlt : k < n
    · have hkI : (k : Int) < (n : Int) := by omega
      have HX : Hid (k < n) := hlt
      obtain ⟨hnx, b, off, x, cs, rfl, hbl, hx, hRx, _, hc⟩ := HR2.out.at_ k hlt
      clear hnx
      have HT := Lib.hid (take_snoc hx)
      have hwx := HLW.out x (List.mem_of_getElem? hx)
      obtain ⟨xf, xws⟩ := x
      obtain ⟨xv, rfl, hxi, hxr⟩ := hRx
      have HXI : Hid (I64 xf) := hxi
      dsimp only at hwx
      obtain ⟨xa, xc, rfl, hxm⟩ := hxr.form
      dsimp only at hxr hxm
      obtain ⟨xn, hxn⟩ : ∃ xn, xws.length = xn := ⟨_, rfl⟩
      have D0 : Hid (W1.cell? ⟨b, off + k * 2, none⟩ = some (.int .i64 xf)) := hc 0 _ rfl
      have D1 : Hid (W1.cell? ⟨b, off + k * 2 + 1, none⟩ = some (.slice xa xn xc)) := by have := hc 1 _ rfl; dsimp only at this; rw [hxn] at this; exact this
      have d0 := cell_later HB.out D0.out
      have d1 := cell_later HB.out D1.out
      rw [hxn] at hxr
      have HXR := Lib.hid hxr
      have HX70 : Hid (xn ≤ 70) := by rw [← hxn]; exact hwx
      clear hc hxi hxr hbl hx hlt hwx hxm hxn
      go_wp2_with fail
      refine wp_region_held_drew (S := (fun w' => Below W1.heap.size W1 w' ∧ w'.cell? ⟨b, off + k * 2, none⟩ = some (.int .i64 xf) ∧ w'.cell? ⟨b, off + k * 2 + 1, none⟩ = some (.slice xa xn xc))) (by kernel_rfl) ?_ (fun hHeld => ?_)
      · exact ⟨below_drewN HB.out 1, d0, d1⟩
      refine takeD (i := 0) (d := some 23) (v := ?_) _ rfl rfl (by kernel_rfl) (by kernel_rfl) (by kernel_rfl) (fun _ _ _ h => h) (by rfl) ?_ (by assumption) ?_
      rotate_left
      · (intro w hSw; (try dsimp only at hSw); go_simp) <;> with_reducible rfl
      try simp only [Act.put, List.setIfInBounds_toArray, List.set_cons_zero, List.set_cons_succ]
      refine takeD (i := 1) (d := some 24) (v := ?_) _ rfl rfl (by kernel_rfl) (by kernel_rfl) (by kernel_rfl) (fun _ _ _ h => h) (by rfl) ?_ (by assumption) ?_
      rotate_left
      · (intro w hSw; (try dsimp only at hSw); go_simp) <;> with_reducible rfl
      try simp only [Act.put, List.setIfInBounds_toArray, List.set_cons_zero, List.set_cons_succ]
      refine takeD (i := 2) (d := some 25) (v := ?_) _ rfl rfl (by kernel_rfl) (by kernel_rfl) (by kernel_rfl) (fun _ _ _ h => h) (by rfl) ?_ (by assumption) ?_
      rotate_left
      · (intro w hSw; (try dsimp only at hSw); go_simp) <;> with_reducible rfl
      try simp only [Act.put, List.setIfInBounds_toArray, List.set_cons_zero, List.set_cons_succ]
      refine takeD (i := 3) (d := some 26) (v := ?_) _ rfl rfl (by kernel_rfl) (by kernel_rfl) (by kernel_rfl) (fun _ _ _ h => h) (by rfl) ?_ (by assumption) ?_
      rotate_left
      · (intro w hSw; (try dsimp only at hSw); go_simp) <;> with_reducible rfl
      try simp only [Act.put, List.setIfInBounds_toArray, List.set_cons_zero, List.set_cons_succ]
      refine takeD (i := 4) (d := some 27) (v := ?_) _ rfl rfl (by kernel_rfl) (by kernel_rfl) (by kernel_rfl) (fun _ _ _ h => h) (by rfl) ?_ (by assumption) ?_
      rotate_left
      · (intro w hSw; (try dsimp only at hSw); go_simp) <;> with_reducible rfl
      try simp only [Act.put, List.setIfInBounds_toArray, List.set_cons_zero, List.set_cons_succ]
      refine takeD (i := 5) (d := some 28) (v := ?_) _ rfl rfl (by kernel_rfl) (by kernel_rfl) (by kernel_rfl) (fun _ _ _ h => h) (by rfl) ?_ (by assumption) ?_
      rotate_left
      · (intro w hSw; (try dsimp only at hSw); go_simp) <;> with_reducible rfl
      try simp only [Act.put, List.setIfInBounds_toArray, List.set_cons_zero, List.set_cons_succ]
      refine takeD (i := 7) (d := some 30) (v := ?_) _ rfl rfl (by kernel_rfl) (by kernel_rfl) (by kernel_rfl) (fun _ _ _ h => h) (by rfl) ?_ (by assumption) ?_
      rotate_left
      · (intro w hSw; (try dsimp only at hSw); go_simp) <;> with_reducible rfl
      try simp only [Act.put, List.setIfInBounds_toArray, List.set_cons_zero, List.set_cons_succ]
      refine takeD (i := 8) (d := some 31) (v := ?_) _ rfl rfl (by kernel_rfl) (by kernel_rfl) (by kernel_rfl) (fun _ _ _ h => h) (by rfl) ?_ (by assumption) ?_
      rotate_left
      · (intro w hSw; (try dsimp only at hSw); go_simp) <;> with_reducible rfl
      try simp only [Act.put, List.setIfInBounds_toArray, List.set_cons_zero, List.set_cons_succ]
      refine takeD (i := 9) (d := some 32) (v := ?_) _ rfl rfl (by kernel_rfl) (by kernel_rfl) (by kernel_rfl) (fun _ _ _ h => h) (by rfl) ?_ (by assumption) ?_
      rotate_left
      · (intro w hSw; (try dsimp only at hSw); go_simp) <;> with_reducible rfl
      try simp only [Act.put, List.setIfInBounds_toArray, List.set_cons_zero, List.set_cons_succ]
      refine takeD (i := 10) (d := some 33) (v := ?_) _ rfl rfl (by kernel_rfl) (by kernel_rfl) (by kernel_rfl) (fun _ _ _ h => h) (by rfl) ?_ (by assumption) ?_
      rotate_left
      · (intro w hSw; (try dsimp only at hSw); go_simp) <;> with_reducible rfl
      try simp only [Act.put, List.setIfInBounds_toArray, List.set_cons_zero, List.set_cons_succ]
      refine takeD (i := 11) (d := some 34) (v := ?_) _ rfl rfl (by kernel_rfl) (by kernel_rfl) (by kernel_rfl) (fun _ _ _ h => h) (by rfl) ?_ (by assumption) ?_
      rotate_left
      · (intro w hSw; (try dsimp only at hSw); go_simp) <;> with_reducible rfl
      try simp only [Act.put, List.setIfInBounds_toArray, List.set_cons_zero, List.set_cons_succ]
      clear hHeld
      refine wpAnyH_ready (rs := [6]) (by kernel_rfl) (by simp) ?_
      refine AllReadyH.cons rfl (fun K hK => ?_) AllReadyH.nil
      go_simp
      refine hK.out _ _ ⟨below_drewN (HB.out.alloc HB.out.size _) 1, cell_al _ d0, cell_al _ d1⟩ (fun hHeld => ?_)
      clear hK K
      try simp only [Act.put, List.setIfInBounds_toArray, List.set_cons_zero, List.set_cons_succ]
      clear hHeld
      obtain ⟨Wa, hWa⟩ : ∃ Wa, (wr.alloc (.cells #[] 40)).drew = Wa := ⟨_, rfl⟩
      have BWa : Hid (Below wr.heap.size wr Wa) := by rw [← hWa]; exact below_drewN ((Below.refl _ _).alloc (Nat.le_refl _) _) 1
      have HSa : Hid (Wa.heap.size = wr.heap.size + 1) := by rw [← hWa]; show (wr.alloc _).heap.size = _; simp
      have HOa : Hid (Wa.ownsRow wr.heap.size 40 3 (.slice (some ⟨wr.heap.size, 0, none⟩) 0 0) 0 (cellsW [])) := by rw [← hWa]; exact row_newW wr
      have HBa : Hid (Below W1.heap.size W1 Wa) := HB.out.trans (BWa.out.mono HB.out.size)
      have RDa := Lib.hid (row_reads (HXR.out.below HBa.out))
      simp only [hWa]
      clear hWa
      refine wpAnyH_ready (rs := [12]) (by kernel_rfl) (by simp) ?_
      refine AllReadyH.cons rfl (fun K hK => ?_) AllReadyH.nil
      refine wp_append_any Wa (.tmp 29) (.tmp 34) _ rfl wr.heap.size 40 j0 _ 3 24 Try.underlying22 hj hy0 hy1 hy2 rfl (by omega) (.slice (some ⟨wr.heap.size, 0, none⟩) 0 0) 0 (cellsW []) rfl HOa.out Wa.heap.size xa xn xc (cellsW xws) rfl RDa.out (cellsW_one _) ?c2 ?c3 ?c4 ?_
      case c2 => have := HX70.out; unfold maxLen; omega
      case c3 => have := HX70.out; omega
      case c4 => have := HSa.out; omega
      intro v2 W2 ho hgr hbl
      have ho' : W2.ownsRow wr.heap.size 40 3 v2 xn (cellsW xws) := by simpa [cellsW] using ho
      obtain ⟨ra, rc, rfl⟩ := slice_form ho'
      have HFW : Hid (FreshW wr.heap.size W2 (.slice ra xn rc) xws) := ⟨xn, ho', row_good HXR.out, by have := HX70.out; unfold rowMax; omega⟩
      have BW2 : Hid (Below wr.heap.size wr W2) := BWa.out.grown hgr (by have := HSa.out; omega) (fun q hq => by have h' : some wr.heap.size = some q := hq; injection h' with h'; omega)
      have HB2 : Hid (Below W1.heap.size W1 W2) := HB.out.trans (BW2.out.mono HB.out.size)
      have HS2 : Hid (wr.heap.size + 1 ≤ W2.heap.size) := by have := hgr.size; have := HSa.out; unfold Hid; omega
      clear ho ho' hgr hbl
      refine hK.out _ _ ⟨HB2.out, cell_later HB2.out D0.out, cell_later HB2.out D1.out⟩ (fun hHeld => ?_)
      clear hK K
      try simp only [Act.put, List.setIfInBounds_toArray, List.set_cons_zero, List.set_cons_succ]
      refine takeD (i := 13) (d := some 36) (v := ?_) _ rfl rfl (by kernel_rfl) (by kernel_rfl) (by kernel_rfl) (fun _ _ _ h => h) (by rfl) ?_ (by assumption) ?_
      rotate_left
      · (intro w hSw; (try dsimp only at hSw); go_simp) <;> with_reducible rfl
      try simp only [Act.put, List.setIfInBounds_toArray, List.set_cons_zero, List.set_cons_succ]
      clear hHeld
      refine wpAnyH_ready (rs := [14]) (by kernel_rfl) (by simp) ?_
      refine AllReadyH.cons rfl (fun K hK => ?_) AllReadyH.nil
      go_simp
      refine hK.out _ _ ⟨HB2.out.alloc HB2.out.size _, cell_al _ (cell_later HB2.out D0.out), cell_al _ (cell_later HB2.out D1.out)⟩ (fun hHeld => ?_)
      clear hK K
      try simp only [Act.put, List.setIfInBounds_toArray, List.set_cons_zero, List.set_cons_succ]
      clear hHeld
      have HO1 : Hid ((W2.alloc (.cells #[.int .i64 xf, .slice ra xn rc] 24)).ownsRow W1.heap.size 24 2 (.slice A k c) k (cellsT L)) := own_below (own_below HO.out BW2.out) ((Below.refl _ _).alloc (Nat.le_refl _) _)
      have RD : Hid (Reads (W2.alloc (.cells #[.int .i64 xf, .slice ra xn rc] 24)) (W2.heap.size + 1) 2 (some ⟨W2.heap.size, 0, none⟩) 1 [.int .i64 xf, .slice ra xn rc]) := ⟨rfl, fun _ => ⟨_, rfl, by simp, fun j u hu => by
        match j, hu with
        | 0, hu => simp at hu; subst hu; rw [Addr.add_lit]; simp
        | 1, hu => simp at hu; subst hu; rw [Addr.add_lit]; simp
        | j + 2, hu => simp at hu⟩⟩
      refine wpAnyH_ready (rs := [15]) (by kernel_rfl) (by simp) ?_
      refine AllReadyH.cons rfl (fun K hK => ?_) AllReadyH.nil
      refine wp_append_any (W2.alloc (.cells #[.int .i64 xf, .slice ra xn rc] 24)) (.tmp 23) (.tmp 37) _ rfl W1.heap.size 24 i0 (.agg #[.int .i64 0, .slice none 0 0]) 2 32 Try.underlying44 hi hz0 hz1 hz2 rfl (by decide) (.slice A k c) k (cellsT L) rfl HO1.out (W2.heap.size + 1) (some ⟨W2.heap.size, 0, none⟩) 1 1 [.int .i64 xf, .slice ra xn rc] rfl RD.out ?c2 ?c3 ?c4 ?c5 ?_
      case c2 => intro u hu; simp at hu; rcases hu with rfl | rfl <;> rfl
      case c3 => have h1 := HX.out; have h2 := HM.out; unfold maxLen; omega
      case c4 => have h1 := HX.out; have h2 := HM.out; omega
      case c5 => have := HS2.out; have := HB.out.size; simp; omega
      intro v' w2 hown hgrow hblk
      obtain ⟨A', c', rfl⟩ := frown_form hown
      have HF : Hid (w2.ownsRow W1.heap.size 24 2 (.slice A' (k + 1) c') (k + 1) (cellsT (L ++ [((⟨xf, xws⟩ : MT), .slice ra xn rc)])) ∧ (L ++ [((⟨xf, xws⟩ : MT), Value.slice ra xn rc)]).map (·.1) = l.take (k + 1)) := by
        refine ⟨by rw [cellsT_app]; exact hown, ?_⟩
        rw [HT.out, List.map_append, HL.out]; rfl
      have HLO := HO.out.lt
      have HG2 : Hid (∀ q ∈ L ++ [((⟨xf, xws⟩ : MT), Value.slice ra xn rc)], FreshW W1.heap.size w2 q.2 q.1.ws ∧ I64 q.1.fr ∧ ∀ g, q.2.ownBlock = some g → (Value.slice A' (k + 1) c').ownBlock ≠ some g) := by
        have key : ∀ (q : MT × Value), FreshW W1.heap.size W2 q.2 q.1.ws → I64 q.1.fr → (∀ g, q.2.ownBlock = some g → (Value.slice A k c).ownBlock ≠ some g) → FreshW W1.heap.size w2 q.2 q.1.ws ∧ I64 q.1.fr ∧ ∀ g, q.2.ownBlock = some g → (Value.slice A' (k + 1) c').ownBlock ≠ some g := by
          intro q hf hI hne
          refine ⟨hf.same fun g hg => ?_, hI, fun g hg => ?_⟩
          · have hlt := (hf.lt g hg).2
            have h1 := hgrow.block g (by simp <;> omega) (fun e => hne g hg e.symm)
            rw [h1]
            exact ((Below.refl _ _).alloc (Nat.le_refl _) _).block g hlt
          · rcases hblk with h1 | h1
            · rw [h1]; exact hne g hg
            · rw [h1]
              intro e
              injection e with e
              have := (hf.lt g hg).2
              (try simp at e)
              omega
        intro q hqm
        rcases List.mem_append.1 hqm with h1 | h1
        · obtain ⟨f1, f2, f3⟩ := HQ.out q h1
          exact key q (f1.below BW2.out) f2 f3
        · simp at h1
          subst h1
          refine key _ (HFW.out.base HB.out.size) HXI.out (fun g hg e => ?_)
          have h2 := (HFW.out.lt g hg).1
          have h3 := (HLO g e).2
          omega
      have HBE : Hid (Below W1.heap.size W1 w2) := (HB2.out.alloc HB2.out.size _).grown hgrow (by have := HS2.out; have := HB.out.size; simp; omega) (fun k hk => (HO1.out.lt k hk).1)
      clear hown hgrow hblk HLO
      refine hK.out _ _ ⟨HBE.out, cell_later HBE.out D0.out, cell_later HBE.out D1.out⟩ (fun hHeld => ?_)
      clear hK K
      try simp only [Act.put, List.setIfInBounds_toArray, List.set_cons_zero, List.set_cons_succ]
      refine takeD (i := 16) (d := some 5) (v := ?_) _ rfl rfl (by kernel_rfl) (by kernel_rfl) (by kernel_rfl) (fun _ _ _ h => h) (by rfl) ?_ (by assumption) ?_
      rotate_left
      · (intro w hSw; (try dsimp only at hSw); go_simp) <;> with_reducible rfl
      try simp only [Act.put, List.setIfInBounds_toArray, List.set_cons_zero, List.set_cons_succ]
      refine wpAnyH_done (by kernel_rfl) ?_ _
      clear hHeld
      go_wp2_with fail
      go_roundw
      case rel =>
        have Q : MineRel n l W1 (.slice A' (k + 1) c') (.int .i64 ((k : Int) + 1)) w2 := ⟨⟨k + 1, A', c', _, HX.out, by go_num, rfl, HF.out.1, HF.out.2, HG2.out, HBE.out⟩⟩
        first | exact Q | ((repeat apply Exists.intro); exact ⟨Q, rfl⟩)
      case measure => have := HX.out; simp [intOf]; omega
    · have hkI : ¬ (k : Int) < (n : Int) := by omega
      have hkn : k = n := by have := HK.out; omega
      subst hkn
      have hLl : L.map (·.1) = l := by have := HL.out; rw [List.take_of_length_le (by have := HN.out; omega)] at this; exact this
      have HLl := Lib.hid hLl
      have HTO : Hid (TabOwn W1.heap.size wr (.slice A k c) l) := ⟨k, L, HO.out, hLl, fun q hq => ⟨(HQ.out q hq).1, (HQ.out q hq).2.1⟩, by have := HM.out; unfold rowMax; omega⟩
      obtain ⟨Wm, hWm⟩ : ∃ Wm, Wm = wr := ⟨_, rfl⟩
      subst hWm
      have CM := Lib.hid (new_any (.slice A k c) l mode Wm HTO.out.row HLW.out HMD.out)
      obtain ⟨er, her⟩ : ∃ er, newErr l mode = er := ⟨_, rfl⟩
      rw [her] at CM
      have HER := Lib.hid her
      clear hLl her
      go_wp2_with fail
      refine CM.out.mono ?_
      rintro e W3 ⟨hor, b3⟩
      have B3 : Hid (Below W1.heap.size W1 W3) := HB.out.trans (b3.mono HB.out.size)
      have B3m := Lib.hid b3
      clear b3 CM
      by_cases he0 : er = 0
      rotate_left
      · have heb : (er == 0) = false := by simpa using he0
        have hec : (er != 0) = true := by simpa using he0
        have hee : (er != er) = false := by simp
        rcases hor with ⟨_, rfl⟩ | ⟨h0, _⟩
        rotate_left
        · exact absurd h0 he0
        go_wp2_with fail
        refine (CN.out W3 B3.out mode HMD.out).mono ?_
        rintro e W4 ⟨hor, b4⟩
        rw [HER.out] at hor
        rcases hor with ⟨_, rfl⟩ | ⟨h0, _⟩
        rotate_left
        · exact absurd h0 he0
        have B4 : Hid (Below w.heap.size w W4) := B1.out.trans ((B3.out.trans (b4.mono B3.out.size)).mono B1.out.size)
        clear b4
        go_wp2_with fail
        refine (known_any _).mono ?_
        rintro e W5 ⟨rfl, b5⟩
        go_wp2_with fail
        go_ret
        exact ⟨rfl, B4.out.trans (b5.mono B4.out.size)⟩
      subst he0
      rcases hor with ⟨h0, _⟩ | ⟨_, g1, hi1, rfl, hp1⟩
      · exact absurd rfl h0
      obtain ⟨z1, z2, z3, z4, z5⟩ := newErr_zero HER.out
      have HP1 := Lib.hid hp1
      have HQ1 := Lib.hid hp1.lt
      clear hp1
      go_wp2_with fail
      refine (CN.out W3 B3.out mode HMD.out).mono ?_
      rintro e W4 ⟨hor, b4⟩
      rw [HER.out] at hor
      rcases hor with ⟨h0, _⟩ | ⟨_, g2, hi2, rfl, hp2⟩
      · exact absurd rfl h0
      have HP2 := Lib.hid hp2
      have HQ2 := Lib.hid hp2.lt
      have HP1 : Hid (PF Wm.heap.size hi1 g1 W4 ⟨l, mode, mode, 0, 0⟩) := HP1.out.below b4
      have B4 : Hid (Below W1.heap.size W1 W4) := B3.out.trans (b4.mono B3.out.size)
      have B4m : Hid (Below Wm.heap.size Wm W4) := B3m.out.trans (b4.mono B3m.out.size)
      have HSS : Hid (W1.heap.size ≤ Wm.heap.size ∧ Wm.heap.size ≤ W3.heap.size) := ⟨HB.out.size, B3m.out.size⟩
      clear b4 hp2
      obtain ⟨m, rfl⟩ : ∃ m : Nat, mode = (m : Int) := ⟨mode.toNat, by omega⟩
      have hmn : m < l.length := by omega
      obtain ⟨t, ht⟩ : ∃ t, l[m]? = some t := ⟨_, List.getElem?_eq_getElem hmn⟩
      have HTT := Lib.hid ht
      have HZ : Hid (l.length ≤ 8 ∧ chkTs l = 0 ∧ m < l.length ∧ 1 ≤ k) := ⟨z2, z3, hmn, by have := HN.out; omega⟩
      obtain ⟨M, cur, hA, hM1, hM2, hM3, hM4⟩ := own_open HO.out (by have := HN.out; omega)
      subst hA
      have HMM : Hid (W1.heap.size ≤ M ∧ M < Wm.heap.size) := ⟨hM1, hM2⟩
      have hM5 : W4.heap[M]? = some (.cells cur 24 (0, 0)) := (B4m.out.block M hM2).trans hM3
      have HMC : Hid (∀ (i : Nat) q, L[i]? = some q → W4.cell? ⟨M, i * 2, none⟩ = some (.int .i64 q.1.fr) ∧ W4.cell? ⟨M, i * 2 + 1, none⟩ = some q.2) := fun i q hq => by
        have f := flat_at (f := tcell) (k := 2) (fun _ => rfl) hq
        refine ⟨?_, ?_⟩
        · rw [(row_cell hM5 _).1]; exact hM4 _ _ (by have := f 0 _ rfl; simpa [cellsT] using this)
        · rw [(row_cell hM5 _).1]; exact hM4 _ _ (by have := f 1 _ rfl; simpa [cellsT] using this)
      have HMF : Hid (∀ o, W4.frozen? ⟨M, o, none⟩ = false) := fun o => (row_cell hM5 o).2
      have HLLEN : Hid (L.length = k) := by have := congrArg List.length HLl.out; rw [List.length_map] at this; have := HN.out; unfold Hid; omega
      have HIN : Hid (∀ q ∈ L, ∃ a n' c', q.2 = .slice a n' c' ∧ n' ≤ 70 ∧ (0 < n' → ∃ g, a = some ⟨g, 0, none⟩ ∧ W1.heap.size ≤ g ∧ g < Wm.heap.size ∧ ∀ j, j < n' → (∃ z, W4.cell? ⟨g, j * 3, none⟩ = some (.int .i64 z)) ∧ W4.frozen? ⟨g, j * 3, none⟩ = false)) := fun q hq => by
        obtain ⟨n', o1, o2, o3⟩ := (HQ.out q hq).1
        obtain ⟨a, c', e⟩ := slice_form o1
        have hq1 : q.1 ∈ l := by rw [← HLl.out]; exact List.mem_map_of_mem hq
        have h70 := HLW.out _ hq1
        have hn' : q.1.ws.length = n' := by
          have := o1.1
          unfold cellsW at this
          rw [flat_len (k := 3) (fun _ => rfl)] at this
          omega
        refine ⟨a, n', c', e, by omega, fun hp => ?_⟩
        rw [e] at o1
        obtain ⟨g, cur', hA, q1, q2, q3, q4⟩ := own_open o1 hp
        refine ⟨g, hA, q1, q2, fun j hj => ?_⟩
        have h5 : W4.heap[g]? = some (.cells cur' 40 (0, 0)) := (B4m.out.block g q2).trans q3
        obtain ⟨x, hx⟩ : ∃ x, q.1.ws[j]? = some x := ⟨_, List.getElem?_eq_getElem (by omega)⟩
        have f := flat_at (f := MW.cells) (k := 3) (fun _ => rfl) hx 0 _ rfl
        exact ⟨⟨x.who, by rw [(row_cell h5 _).1]; exact q4 _ _ (by simpa [cellsW] using f)⟩, (row_cell h5 _).2⟩
      have hee : ((0 : Int) != 0) = false := rfl
      clear z1 z2 z3 z4 z5 hmn ht hM1 hM2 hM3 hM4 hM5 hlt hee
      have hk9 : k ≤ 9 := hnm
      go_wp2_with fail
      go_loopw [11] (fun v wr => MutRel k W1.heap.size Wm.heap.size W4 v wr) (fun v => fun _ => k - (intOf v).toNat)
      case atStart => exact ⟨0, Nat.zero_le _, rfl, Pres.refl _ _ _⟩
      case round =>
        obtain ⟨⟨i, hi', rfl, hpr⟩⟩ := hrel
        have HPR := Lib.hid hpr
        have HI' := Lib.hid hi'
        clear hpr hi'
        by_cases hil : i < k
        · have hiI : (i : Int) < (k : Int) := by omega
          have HIX : Hid (i < k) := hil
          obtain ⟨q, hq⟩ : ∃ q, L[i]? = some q := ⟨_, List.getElem?_eq_getElem (by have := HLLEN.out; omega)⟩
          obtain ⟨c1, c2⟩ := HMC.out i q hq
          obtain ⟨qa, qn, qc, hq2, hq70, hqin⟩ := HIN.out q (List.mem_of_getElem? hq)
          rw [hq2] at c2
          have C1 := Lib.hid c1
          have C2 := Lib.hid c2
          have HQI := Lib.hid hqin
          have hqn70 : qn ≤ 70 := hq70
          obtain ⟨Wo, hWo⟩ : ∃ Wo, Wo = wr := ⟨_, rfl⟩
          subst hWo
          clear c1 c2 hq hq2 hqin hil hq70
          go_wp2_with fail
          go_loopw [12] (fun v wr => MutRel qn W1.heap.size Wm.heap.size W4 v wr) (fun v => fun _ => qn - (intOf v).toNat)
          case atStart => exact ⟨0, Nat.zero_le _, rfl, HPR.out⟩
          case round =>
            obtain ⟨⟨j, hj', rfl, hpr⟩⟩ := hrel
            have HPJ := Lib.hid hpr
            have c2 := hpr.slice C2.out
            clear hpr hj'
            by_cases hjl : j < qn
            · have hjI : (j : Int) < (qn : Int) := by omega
              have HJX : Hid (j < qn) := hjl
              obtain ⟨g, rfl, hg1, hg2, hgc⟩ := HQI.out (by omega)
              obtain ⟨⟨z0, hz0⟩, hfz⟩ := hgc j hjl
              obtain ⟨z, hz⟩ := HPJ.out.int hz0
              have hfz' : wr.frozen? ⟨g, j * 3, none⟩ = false := (HPJ.out.frozen _).trans hfz
              obtain ⟨zz, hzz⟩ : ∃ zz, IntKind.i64.wrap (z + 1) = zz := ⟨_, rfl⟩
              have hzz' : wrap64 (z + 1) = zz := by rw [← IntWalk.i64_left]; exact hzz
              have HNX : Hid (Pres W1.heap.size Wm.heap.size W4 (wr.setCell ⟨g, j * 3, none⟩ (.int .i64 zz))) := HPJ.out.set hz ⟨hg1, hg2⟩ zz
              clear hgc hz0 hfz hg1 hg2 hjl
              go_wp2_with fail
              go_roundw
              case rel =>
                have Q : MutRel qn W1.heap.size Wm.heap.size W4 (.int .i64 ((j : Int) + 1)) (wr.setCell ⟨g, j * 3, none⟩ (.int .i64 zz)) := ⟨⟨j + 1, HJX.out, by go_num, HNX.out⟩⟩
                first | exact Q | ((repeat apply Exists.intro); exact ⟨Q, rfl⟩)
              case measure => have := HJX.out; simp [intOf]; omega
            · have hjI : ¬ (j : Int) < (qn : Int) := by omega
              obtain ⟨z, hz⟩ := HPJ.out.int C1.out
              have hfz : wr.frozen? ⟨M, i * 2, none⟩ = false := (HPJ.out.frozen _).trans (HMF.out _)
              have HNX : Hid (Pres W1.heap.size Wm.heap.size W4 (wr.setCell ⟨M, i * 2, none⟩ (.int .i64 1))) := HPJ.out.set hz HMM.out 1
              go_wp2_with fail
              go_roundw
              case rel =>
                have Q : MutRel k W1.heap.size Wm.heap.size W4 (.int .i64 ((i : Int) + 1)) (wr.setCell ⟨M, i * 2, none⟩ (.int .i64 1)) := ⟨⟨i + 1, HIX.out, by go_num, HNX.out⟩⟩
                first | exact Q | ((repeat apply Exists.intro); exact ⟨Q, rfl⟩)
              case measure => have := HIX.out; simp [intOf]; omega
        · have hiI : ¬ (i : Int) < (k : Int) := by omega
          obtain ⟨Wn, hWn⟩ : ∃ Wn, Wn = wr := ⟨_, rfl⟩
          subst hWn
          have HP1n : Hid (PF Wm.heap.size hi1 g1 Wn ⟨l, (m : Int), (m : Int), 0, 0⟩) := HPR.out.pf HP1.out (Nat.le_refl _)
          have HP2n : Hid (PF W3.heap.size hi2 g2 Wn ⟨l, (m : Int), (m : Int), 0, 0⟩) := HPR.out.pf HP2.out HSS.out.2
          have HBn : Hid (Below W1.heap.size W1 Wn) := ⟨HPR.out.os.trans B4.out.os, HPR.out.tape.trans B4.out.tape, HPR.out.output.trans B4.out.output, by rw [HPR.out.size]; exact B4.out.size, fun q hq => (HPR.out.out q (.inl hq)).trans (B4.out.block q hq)⟩
          have CC := Lib.hid (pclone_any _ _ _ _ Wn HP1n.out (by have := HZ.out; dsimp only; omega) HLW.out)
          go_wp2_with fail
          refine CC.out.mono ?_
          rintro e W5 ⟨⟨g3, hi3, rfl, hp3⟩, b5⟩
          have HP15 : Hid (PF Wm.heap.size hi1 g1 W5 ⟨l, (m : Int), (m : Int), 0, 0⟩) := HP1n.out.below b5
          have HP25 : Hid (PF W3.heap.size hi2 g2 W5 ⟨l, (m : Int), (m : Int), 0, 0⟩) := HP2n.out.below b5
          have HP35 := Lib.hid hp3
          have HB5 : Hid (Below W1.heap.size W1 W5) := HBn.out.trans (b5.mono HBn.out.size)
          have HAP : Hid (g1 < W3.heap.size ∧ hi1 ≤ W3.heap.size ∧ W1.heap.size ≤ g1 ∧ W3.heap.size ≤ g2 ∧ g2 < Wn.heap.size ∧ hi1 ≤ Wn.heap.size ∧ W1.heap.size ≤ g2 ∧ g1 < Wn.heap.size) := by
            have := HQ1.out
            have := HQ2.out
            have := HP2n.out.lt
            have := HSS.out
            exact ⟨by omega, by omega, by omega, by omega, by omega, by omega, by omega, by omega⟩
          obtain ⟨lo3, hlo3⟩ : ∃ q, Wn.heap.size = q := ⟨_, rfl⟩
          obtain ⟨lo2, hlo2⟩ : ∃ q, W3.heap.size = q := ⟨_, rfl⟩
          obtain ⟨lo1, hlo1⟩ : ∃ q, Wm.heap.size = q := ⟨_, rfl⟩
          rw [hlo3] at HP35 HAP
          rw [hlo2] at HP25 HAP
          rw [hlo1] at HP15
          have hck := chk_zero (chkTs_zero HZ.out.2.1 t (List.mem_of_getElem? HTT.out))
          have HPI0 : Hid (PI ⟨l, (m : Int), (m : Int), 0, 0⟩ t) := ⟨HZ.out.1, chkTs_zero HZ.out.2.1, by simpa using HTT.out, by simp, ⟨by simp, by have := HZ.out; dsimp only; omega⟩, ⟨by simp, by dsimp only; omega⟩, ⟨by simp, by dsimp only; omega⟩⟩
          clear hp3 b5 CC hlo3 hlo2 hlo1 hck
          go_wp2_with fail
          go_loopw [14] (fun v wr => TkRel l t m lo1 hi1 g1 lo2 hi2 g2 lo3 hi3 g3 W1 v wr) (fun v => fun _ => 45 - (intOf v).toNat)
          case atStart => exact ⟨0, _, by omega, rfl, HP15.out, HP25.out, HP35.out, HPI0.out, rfl, rfl, rfl, rfl, HB5.out⟩
          case round =>
            obtain ⟨⟨j, st, hj, rfl, hq1, hq2, hq3, hpi, s1, s2, s3, s4, hb⟩⟩ := hrel
            have HBJ := Lib.hid hb
            by_cases hj45 : j < 45
            · have hjI : (j : Int) < 45 := by omega
              have HJX : Hid (j < 45) := hj45
              obtain ⟨p1, p2, p3, p4, p5⟩ := hpi.step (by rw [s3, s2]) (by rw [s4]; omega)
              obtain ⟨ut, um, uw, ul, ub, ue, uf, hU⟩ : ∃ ut um uw ul ub ue uf, turnOf st t = ⟨ut, um, uw, ul, ub, ue, uf⟩ := ⟨_, _, _, _, _, _, _, rfl⟩
              have CT1 : Hid (Calls Try.prog 27 #[.pointer (some ⟨g1, 0, none⟩)] wr fun e w' => e = .returned (.agg #[.int .i64 ut, .int .i64 um, .int .i64 uw, .int .i64 ul, .bool ub, .bool ue, .bool uf]) ∧ PF lo1 hi1 g1 w' (stepOf st t) ∧ Past g1 wr w') := by
                have h := tick_any _ _ _ _ _ wr hq1 hpi
                rw [hU] at h
                exact h
              have CT2 : Hid (∀ W, PF lo2 hi2 g2 W st → Calls Try.prog 27 #[.pointer (some ⟨g2, 0, none⟩)] W fun e w' => e = .returned (.agg #[.int .i64 ut, .int .i64 um, .int .i64 uw, .int .i64 ul, .bool ub, .bool ue, .bool uf]) ∧ PF lo2 hi2 g2 w' (stepOf st t) ∧ Past g2 W w') := fun W hp => by
                have h := tick_any _ _ _ _ _ W hp hpi
                rw [hU] at h
                exact h
              have HQ2j := Lib.hid hq2
              have HQ3j := Lib.hid hq3
              have HST : Hid (PI (stepOf st t) t ∧ (stepOf st t).ts = l ∧ (stepOf st t).mode = m ∧ (stepOf st t).next = m ∧ (stepOf st t).now = ((j + 1 : Nat) : Int)) := ⟨p1, by rw [p2, s1], by rw [p3, s2], by rw [p4, s3], by rw [p5, s4]; omega⟩
              have RUN := fun W => neqU_self ut um uw ul ub ue uf W
              have hwj : IntKind.i64.wrap ((j : Int) + 1) = (j : Int) + 1 := wrap_ok (by omega) (by omega)
              obtain ⟨st2, hst2⟩ : ∃ st2, stepOf st t = st2 := ⟨_, rfl⟩
              rw [hst2] at CT1 CT2 HST
              clear hj hq1 hq2 hq3 hpi s1 s2 s3 s4 hb p1 p2 p3 p4 p5 hU hj45 hst2
              go_wp2_with fail
              refine CT1.out.mono ?_
              rintro e W6 ⟨rfl, hp6, hpast⟩
              have HP6 := Lib.hid hp6
              have HQ6 : Hid (PF lo2 hi2 g2 W6 st) := HQ2j.out.other hpast (.inl HAP.out.1)
              have HR6 : Hid (PF lo3 hi3 g3 W6 ⟨l, (m : Int), (m : Int), 0, 0⟩) := HQ3j.out.other hpast (.inl HAP.out.2.2.2.2.2.2.2)
              have HB6 : Hid (Below W1.heap.size W1 W6) := HBJ.out.trans (hpast.below HAP.out.2.2.1 HBJ.out.size)
              clear hp6 hpast CT1
              go_wp2_with fail
              refine (CT2.out W6 HQ6.out).mono ?_
              rintro e W7 ⟨rfl, hp7, hpast⟩
              have HP7 : Hid (PF lo1 hi1 g1 W7 st2) := HP6.out.other hpast (.inr (by have := HAP.out; omega))
              have HQ7 := Lib.hid hp7
              have HR7 : Hid (PF lo3 hi3 g3 W7 ⟨l, (m : Int), (m : Int), 0, 0⟩) := HR6.out.other hpast (.inl HAP.out.2.2.2.2.1)
              have HB7 : Hid (Below W1.heap.size W1 W7) := HB6.out.trans (hpast.below HAP.out.2.2.2.2.2.2.1 HB6.out.size)
              clear hp7 hpast CT2
              go_wp2_with fail
              go_roundw
              case rel =>
                have Q : TkRel l t m lo1 hi1 g1 lo2 hi2 g2 lo3 hi3 g3 W1 (.int .i64 ((j : Int) + 1)) W7 := ⟨⟨j + 1, st2, HJX.out, by simp, HP7.out, HQ7.out, HR7.out, HST.out.1, HST.out.2.1, HST.out.2.2.1, HST.out.2.2.2.1, HST.out.2.2.2.2, HB7.out⟩⟩
                first | exact Q | ((repeat apply Exists.intro); exact ⟨Q, rfl⟩)
              case measure => have := HJX.out; simp [intOf]; omega
            · have hj5 : j = 45 := by omega
              subst hj5
              obtain ⟨ts', mo, ne, no, ti⟩ := st
              dsimp only at s1 s2 s3 s4
              subst s1 s2 s3
              have hno : no = 45 := by rw [s4]; rfl
              subst hno
              have HQ1j := Lib.hid hq1
              have HQ2j := Lib.hid hq2
              have HQ3j := Lib.hid hq3
              clear hj hq1 hq2 hq3 hpi s4 hb hj45
              go_wp2_with fail
              refine (known_any _).mono ?_
              rintro e W6 ⟨rfl, b6⟩
              have HQ16 := Lib.hid (HQ1j.out.below b6)
              have HQ26 := Lib.hid (HQ2j.out.below b6)
              have HQ36 := Lib.hid (HQ3j.out.below b6)
              have HB6 : Hid (Below W1.heap.size W1 W6) := HBJ.out.trans (b6.mono HBJ.out.size)
              clear b6
              go_wp2_with fail
              refine (now_any _ _ _ _ W6 HQ36.out).mono ?_
              rintro e W7 ⟨rfl, b7⟩
              have HQ17 := Lib.hid (HQ16.out.below b7)
              have HQ27 := Lib.hid (HQ26.out.below b7)
              have HQ37 := Lib.hid (HQ36.out.below b7)
              have HB7 : Hid (Below W1.heap.size W1 W7) := HB6.out.trans (b7.mono HB6.out.size)
              clear b7
              go_wp2_with fail
              refine (psame_now _ _ _ _ _ _ _ _ _ _ _ _ _ W7 HQ37.out HQ17.out (by decide)).mono ?_
              rintro e W8 ⟨rfl, b8⟩
              have HQ18 := Lib.hid (HQ17.out.below b8)
              have HQ28 := Lib.hid (HQ27.out.below b8)
              have HB8 : Hid (Below W1.heap.size W1 W8) := HB7.out.trans (b8.mono HB7.out.size)
              clear b8
              go_wp2_with fail
              refine (psame_any _ _ _ _ _ _ _ _ _ _ _ W8 HQ18.out HQ28.out).mono ?_
              rintro e W9 ⟨rfl, b9⟩
              have B9 : Hid (Below w.heap.size w W9) := B1.out.trans ((HB8.out.trans (b9.mono HB8.out.size)).mono B1.out.size)
              clear b9
              go_wp2_with fail
              go_ret
              exact ⟨rfl, B9.out⟩
end Go.Proofs.Ytcnhghnkocdjkaa
