/-
  The document's rules as the program's. Each statement bears its own conditions.
-/
import Derived.Test.YthnlkfcfiieddaaHlF
namespace Go.Proofs.Ythnlkfcfiieddaa.Hl
open Go.RowKit Go.Proofs.Ythnlkfcfiieddaa.F 
set_option linter.unusedVariables false
set_option linter.unusedSimpArgs false
/-- Rules as cells. -/
def F3 (rs : List (Int × Int × Int)) : List Value := rs.flatMap fun x => [.int .i64 x.1, .int .i64 x.2.1, .int .i64 x.2.2]
theorem F3_len (rs : List (Int × Int × Int)) : (F3 rs).length = rs.length * 3 := by
  induction rs with
  | nil => rfl
  | cons x r ih => unfold F3 at *; rw [List.flatMap_cons, List.length_append, ih, List.length_cons]; simp; omega
theorem F3_app (a b : List (Int × Int × Int)) : F3 (a ++ b) = F3 a ++ F3 b := by simp [F3]
theorem F3_at : ∀ (rs : List (Int × Int × Int)) (i : Nat) (x : Int × Int × Int), rs[i]? = some x → (F3 rs)[i * 3]? = some (.int .i64 x.1) ∧ (F3 rs)[i * 3 + 1]? = some (.int .i64 x.2.1) ∧ (F3 rs)[i * 3 + 2]? = some (.int .i64 x.2.2) := by
  intro rs
  induction rs with
  | nil => intro i x h; simp at h
  | cons y r ih =>
    intro i x h
    unfold F3 at *
    rw [List.flatMap_cons]
    cases i with
    | zero =>
      simp at h
      subst h
      simp
    | succ i =>
      have h' : r[i]? = some x := by simpa using h
      obtain ⟨a, b, c⟩ := ih i x h'
      rw [show (i + 1) * 3 = 3 + i * 3 by omega, show 3 + i * 3 + 1 = 3 + (i * 3 + 1) by omega, show 3 + i * 3 + 2 = 3 + (i * 3 + 2) by omega]
      refine ⟨?_, ?_, ?_⟩ <;> rw [List.getElem?_append_right (by simp)] <;> simp <;> first | exact a | exact b | exact c
theorem F3_one (rs : List (Int × Int × Int)) : ∀ u ∈ F3 rs, u.oneCell' = true := by
  intro u hu
  unfold F3 at hu
  rw [List.mem_flatMap] at hu
  obtain ⟨x, _, hx⟩ := hu
  simp at hx
  rcases hx with rfl | rfl | rfl <;> rfl
/-- Rules that are owned lie in a row. -/
theorem RR.of_own {B : Nat} {w : World} {e : TypeId} {v : Value} {n : Nat} {rs : List (Int × Int × Int)} (h : w.ownsRow B e 3 v n (F3 rs)) : ∃ A c, v = .slice A n c ∧ RR w A n rs := by
  have hl : rs.length = n := by have := h.1; rw [F3_len] at this; omega
  rcases h.2 with ⟨rfl, h0⟩ | ⟨g, cap, cur, rfl, hb, hg, h1, h2, h3, h4⟩
  · subst h0
    exact ⟨none, 0, rfl, hl, fun i x hx => by have := (List.getElem?_eq_some_iff.1 hx).1; omega⟩
  · refine ⟨_, _, rfl, hl, fun i x hx => ⟨g, 0, rfl, (Array.getElem?_eq_some_iff.1 hg).1, ?_⟩⟩
    have hi : i < n := by have := (List.getElem?_eq_some_iff.1 hx).1; omega
    have hc : ∀ j u, (F3 rs)[j]? = some u → w.cell? ⟨g, 0 + j, none⟩ = some u := fun j u hu => by
      rw [Nat.zero_add, (row_cell hg j).1]
      have hj : j < n * 3 := by have := (List.getElem?_eq_some_iff.1 hu).1; rw [F3_len] at this; omega
      rw [← h4, List.getElem?_take] at hu
      rw [if_pos (by first | exact hj | omega)] at hu
      simpa using hu
    obtain ⟨a, b, c⟩ := F3_at rs i x hx
    exact ⟨hc _ _ a, by rw [Nat.add_assoc]; exact hc _ _ b, by rw [Nat.add_assoc]; exact hc _ _ c⟩
theorem RR.below {w w' : World} {A : Option Addr} {n : Nat} {rs : List (Int × Int × Int)} (h : RR w A n rs) (hb : Below w.heap.size w w') : RR w' A n rs := ⟨h.ln, fun i x hx => by
  obtain ⟨b, off, e, hl, c0, c1, c2⟩ := h.ex i x hx
  exact ⟨b, off, e, Nat.lt_of_lt_of_le hl hb.size, (hb.cell (by exact hl)).trans c0, (hb.cell (by exact hl)).trans c1, (hb.cell (by exact hl)).trans c2⟩⟩
theorem rule_info : ((Try.prog.info? 59).map fun i => (i.size, i.bytes, i.zero.map (·.cells.size))) = some (3, 24, some 3) := by kernel_rfl
structure OFR (lo n : Nat) (rs : List (Int × Int × Int)) (w0 : World) (ov iv : Value) (wr : World) : Prop where
  ex : ∃ j : Nat, j ≤ n ∧ iv = .int .i64 (j : Int) ∧ wr.ownsRow lo 59 3 ov j (F3 (rs.take j)) ∧ Below lo w0 wr
set_option maxRecDepth 100000 in
set_option maxHeartbeats 16000000 in
theorem of_any (A : Option Addr) (n c : Nat) (rs : List (Int × Int × Int)) (w : World) (h : RR w A n rs) (hn : n ≤ 70) : Calls Try.prog 10 #[.slice A n c] w fun r w' => ∃ A' c', r = .returned (.slice A' n c') ∧ RR w' A' n rs ∧ Below w.heap.size w w' := by
  obtain ⟨i0, hi, hz⟩ : ∃ i, Try.prog.info? 59 = some i ∧ (i.size, i.bytes, i.zero.map (·.cells.size)) = (3, 24, some 3) := by
    have := rule_info
    cases hi : Try.prog.info? 59 with
    | none => rw [hi] at this; cases this
    | some i => rw [hi] at this; injection this with this; exact ⟨i, rfl, this⟩
  simp only [Prod.mk.injEq] at hz
  obtain ⟨hz1, hz2, hz3⟩ := hz
  obtain ⟨zz, hzz, hzc⟩ : ∃ z, i0.zero = some z ∧ z.cells.size = 3 := by
    cases hz0 : i0.zero with
    | none => rw [hz0] at hz3; cases hz3
    | some z => rw [hz0] at hz3; injection hz3 with hz3; exact ⟨z, rfl, hz3⟩
  have HR := Lib.hid h
  obtain ⟨lo, hlo⟩ : ∃ lo, w.heap.size = lo := ⟨_, rfl⟩
  have HLO := Lib.hid hlo
  have HN : Hid (n ≤ 70) := hn
  rw [hlo]
  clear h hn hz3
  go_enter Try.func10, Try.ntmps10
  go_upto_block 0 with fail
  clear hlo
  go_cut [3, 8] (fun ox ix wx => wx.ownsRow lo 59 3 ox n (F3 rs) ∧ Below lo w wx)
  case first =>
    go_wp2_with fail
    go_loopw [3, 8] (fun ov iv wr => OFR lo n rs w ov iv wr) (fun _ i _ => n - (intOf i).toNat)
    case atStart => exact ⟨⟨0, Nat.zero_le _, rfl, World.ownsRow_nil _ _ _ _, by rw [← HLO.out]; exact Below.refl _ _⟩⟩
    case round =>
      rename_i ov iv wr
      obtain ⟨⟨j, hj, hiv, ho, hb⟩⟩ := hrel
      subst hiv
      have HO := Lib.hid ho
      have HB := Lib.hid hb
      obtain ⟨Aq, cq, hv⟩ := slice_form ho
      subst hv
      clear ho hb
      by_cases hlt : j < n
      rotate_left
      · have hjI : ¬ (j : Int) < (n : Int) := by omega
        have g0 : decide ((j : Int) < (n : Int)) = false := by simp; omega
        have hjn : j = n := by omega
        subst hjn
        have ht : rs.take j = rs := List.take_of_length_le (by have := HR.out.ln; omega)
        rw [ht] at HO
        clear hlt hj ht
        go_wp2_with fail
        go_meet
        exact ⟨HO.out, HB.out⟩
      have hjI : (j : Int) < (n : Int) := by omega
      have g0 : decide ((j : Int) < (n : Int)) = true := by simp; omega
      have hjl : j < rs.length := by have := HR.out.ln; omega
      obtain ⟨x, hx⟩ : ∃ x, rs[j] = x := ⟨_, rfl⟩
      have hx' : rs[j]? = some x := by rw [List.getElem?_eq_getElem hjl, hx]
      have ht : rs.take (j + 1) = rs.take j ++ [x] := by rw [List.take_add_one, hx']; rfl
      have HT := Lib.hid ht
      obtain ⟨b, off, hA, hbl, c0, c1, c2⟩ := HR.out.ex j x hx'
      subst hA
      obtain ⟨xe, xl, xd⟩ := x
      rw [HLO.out] at hbl
      have q0 : wr.cell? ⟨b, off + j * 3, none⟩ = some (.int .i64 xe) := (HB.out.cell hbl).trans c0
      have q1 : wr.cell? ⟨b, off + j * 3 + 1, none⟩ = some (.int .i64 xl) := (HB.out.cell hbl).trans c1
      have q2 : wr.cell? ⟨b, off + j * 3 + 2, none⟩ = some (.int .i64 xd) := (HB.out.cell hbl).trans c2
      have HX : Hid (j < n ∧ n ≤ 70) := ⟨hlt, HN.out⟩
      have hj70 : (j : Int) < 70 := by have := HN.out; omega
      have hlw : lo ≤ wr.heap.size := by have := HB.out.size; have := HLO.out; omega
      have hy1 : (wr.alloc (.cells #[.int .i64 0, .int .i64 0, .int .i64 0] 51)).heap[wr.heap.size]? = some (.cells #[.int .i64 0, .int .i64 0, .int .i64 0] 51 (0, 0)) := heap_alloc_new _ _
      have O1 := own_below HO.out ((Below.refl wr.heap.size wr).alloc (Nat.le_refl _) (.cells #[.int .i64 0, .int .i64 0, .int .i64 0] 51))
      have B1 : Below lo w (wr.alloc (.cells #[.int .i64 0, .int .i64 0, .int .i64 0] 51)) := HB.out.alloc hlw _
      obtain ⟨Y, hY⟩ : ∃ Y, wr.heap.size = Y := ⟨_, rfl⟩
      obtain ⟨W1, hW1⟩ : ∃ W, wr.alloc (.cells #[.int .i64 0, .int .i64 0, .int .i64 0] 51) = W := ⟨_, rfl⟩
      rw [hW1] at hy1 O1 B1
      rw [hY] at hy1 hlw
      have z0 : W1.frozen? ⟨Y, 0, none⟩ = false := (row_cell hy1 0).2
      have z1 : W1.frozen? ⟨Y, 1, none⟩ = false := (row_cell hy1 1).2
      have z2 : W1.frozen? ⟨Y, 2, none⟩ = false := (row_cell hy1 2).2
      have y0 : W1.cell? ⟨Y, 0, none⟩ = some (.int .i64 0) := by rw [(row_cell hy1 0).1]; rfl
      have y1 : W1.cell? ⟨Y, 1, none⟩ = some (.int .i64 0) := by rw [(row_cell hy1 1).1]; rfl
      have y2 : W1.cell? ⟨Y, 2, none⟩ = some (.int .i64 0) := by rw [(row_cell hy1 2).1]; rfl
      have hs := set_at (set_at (set_at hy1 0 (.int .i64 xe)) 1 (.int .i64 xl)) 2 (.int .i64 xd)
      have B2 : Below Y wr (((W1.setCell ⟨Y, 0, none⟩ (.int .i64 xe)).setCell ⟨Y, 1, none⟩ (.int .i64 xl)).setCell ⟨Y, 2, none⟩ (.int .i64 xd)) := by
        rw [← hW1, ← hY]
        exact ((((Below.refl wr.heap.size wr).alloc (Nat.le_refl _) _).setCell (by exact Nat.le_refl _) _).setCell (by exact Nat.le_refl _) _).setCell (by exact Nat.le_refl _) _
      have hS2 : (((W1.setCell ⟨Y, 0, none⟩ (.int .i64 xe)).setCell ⟨Y, 1, none⟩ (.int .i64 xl)).setCell ⟨Y, 2, none⟩ (.int .i64 xd)).heap.size = Y + 1 := by rw [← hW1, ← hY]; simp
      obtain ⟨W2, hW2⟩ : ∃ W, ((W1.setCell ⟨Y, 0, none⟩ (.int .i64 xe)).setCell ⟨Y, 1, none⟩ (.int .i64 xl)).setCell ⟨Y, 2, none⟩ (.int .i64 xd) = W := ⟨_, rfl⟩
      rw [hW2] at hs B2 hS2
      have p0 : W2.cell? ⟨Y, 0, none⟩ = some (.int .i64 xe) := by rw [(row_cell hs 0).1]; rfl
      have p1 : W2.cell? ⟨Y, 1, none⟩ = some (.int .i64 xl) := by rw [(row_cell hs 1).1]; rfl
      have p2 : W2.cell? ⟨Y, 2, none⟩ = some (.int .i64 xd) := by rw [(row_cell hs 2).1]; rfl
      have B3 : Below Y wr (W2.alloc (.cells #[.int .i64 xe, .int .i64 xl, .int .i64 xd] 59)) := B2.trans ((Below.refl _ _).alloc (by rw [hS2]; omega) _)
      have hb3 : (W2.alloc (.cells #[.int .i64 xe, .int .i64 xl, .int .i64 xd] 59)).heap[Y + 1]? = some (.cells #[.int .i64 xe, .int .i64 xl, .int .i64 xd] 59 (0, 0)) := by rw [← hS2]; exact heap_alloc_new _ _
      have hS3 : (W2.alloc (.cells #[.int .i64 xe, .int .i64 xl, .int .i64 xd] 59)).heap.size = Y + 2 := by simp [hS2]
      obtain ⟨W3, hW3⟩ : ∃ W, W2.alloc (.cells #[.int .i64 xe, .int .i64 xl, .int .i64 xd] 59) = W := ⟨_, rfl⟩
      rw [hW3] at B3 hb3 hS3
      have O3 := Lib.hid (own_below HO.out (by rw [hY]; exact B3))
      have BL3 : Hid (Below lo w W3) := HB.out.trans (B3.mono hlw)
      have HS3 : Hid (W3.heap.size = Y + 2 ∧ lo ≤ Y) := ⟨hS3, hlw⟩
      have RD : Hid (Reads W3 (Y + 2) 3 (some ⟨Y + 1, 0, none⟩) 1 [.int .i64 xe, .int .i64 xl, .int .i64 xd]) := by
        refine ⟨rfl, fun _ => ⟨_, rfl, by show Y + 1 < Y + 2; omega, fun i u hu => ?_⟩⟩
        rw [Addr.add_lit, Nat.zero_add, (row_cell hb3 i).1]
        simpa using hu
      clear hy1 O1 B1 hs B2 B3 hb3 hS3 hlw c0 c1 c2 hbl hx hx' hjl ht hlt hj
      go_wp2_with (at_builtin; refine wpList_append_any _ rfl _ _ 29 rfl lo 59 i0 zz 3 24 Try.underlying29 hi hzz hz1 hz2 hzc (by decide) _ _ _ rfl O3.out (Y + 2) (some ⟨Y + 1, 0, none⟩) 1 1 [.int .i64 xe, .int .i64 xl, .int .i64 xd] rfl RD.out ?c2 ?c3 ?c4 ?c5 ?_)
      case c2 => intro u hu; simp at hu; rcases hu with rfl | rfl | rfl <;> rfl
      case c3 => have := HX.out; unfold maxLen; omega
      case c4 => have := HX.out; omega
      case c5 => have := HS3.out; omega
      intro v2 w2 hown hgrow hblk
      have BF : Hid (Below lo w w2) := BL3.out.grown hgrow (by have := HS3.out; omega) (fun q hq => by
        rcases O3.out.2 with ⟨hv, _⟩ | ⟨g, cap, cur, hv, hbg, _⟩
        · rw [hv] at hq; cases hq
        · rw [hv] at hq
          injection hq with hq
          have : g = q := hq
          omega)
      have OF2 : Hid (w2.ownsRow lo 59 3 v2 (j + 1) (F3 (rs.take (j + 1)))) := by rw [HT.out, F3_app]; exact hown
      obtain ⟨A2, c2, rfl⟩ := slice_form hown
      clear hown hgrow hblk
      go_wp2_with fail
      go_roundw
      case rel =>
        have Q : OFR lo n rs w (.slice A2 (j + 1) c2) (.int .i64 ((j : Int) + 1)) w2 := ⟨⟨j + 1, HX.out.1, by go_num, OF2.out, BF.out⟩⟩
        first | exact Q | ((repeat apply Exists.intro); exact ⟨Q, rfl⟩)
      case measure => have := HX.out; simp [intOf]; omega
  case rest =>
    rename_i ov iv wc0
    obtain ⟨w3, hw3⟩ : ∃ w', w' = wc := ⟨_, rfl⟩
    subst hw3
    obtain ⟨ho, hb⟩ := hcut
    have HB := Lib.hid hb
    obtain ⟨A', c', hv, hr⟩ := RR.of_own ho
    subst hv
    have HRR := Lib.hid hr
    clear ho hb hr
    go_wp2_with fail
    go_ret
    exact ⟨_, _, rfl, HRR.out, HB.out⟩
end Go.Proofs.Ythnlkfcfiieddaa.Hl
