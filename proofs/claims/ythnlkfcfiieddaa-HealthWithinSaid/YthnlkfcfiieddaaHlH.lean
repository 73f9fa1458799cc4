/-
  The reference's New. Each statement bears its own conditions.
-/
import Derived.Test.YthnlkfcfiieddaaHlG
namespace Go.Proofs.Ythnlkfcfiieddaa.Hl
open Go.RowKit Go.Proofs.Ythnlkfcfiieddaa.F 
set_option linter.unusedVariables false
set_option linter.unusedSimpArgs false
/-- Among the first j rules one is of this error and level. -/
def seen (rs : List (Int × Int × Int)) (j : Nat) (e l : Int) : Prop := ∃ k, k < j ∧ ∃ d, rs[k]? = some (e, l, d)
def refE (mo : Bool) (rs : List (Int × Int × Int)) : Int := if 64 < rs.length then 8 else (newL mo rs []).1
def badB (mo : Bool) (e l : Int) : Bool := !(decide (errP e) && lvB mo l)
structure RNR (n : Nat) (mo : Bool) (rs : List (Int × Int × Int)) (w0 : World) (iv : Value) (wr : World) : Prop where
  ex : ∃ (j : Nat) (R : List ((Int × Int) × Int)), j ≤ n ∧ iv = .int .i64 (j : Int) ∧ newL mo (rs.drop j) R = newL mo rs [] ∧ (∀ e l, (getL R e l).isSome = true ↔ seen rs j e l) ∧ Below w0.heap.size w0 wr
structure RKR (j : Nat) (rs : List (Int × Int × Int)) (e l : Int) (W : World) (kv : Value) (wr : World) : Prop where
  ex : ∃ k : Nat, k ≤ j ∧ kv = .int .i64 (k : Int) ∧ ¬ seen rs k e l ∧ ∃ m, wr = W.drewN m
theorem seen_step {rs : List (Int × Int × Int)} {k : Nat} {e l e2 l2 d2 : Int} (h : rs[k]? = some (e2, l2, d2)) : seen rs (k + 1) e l ↔ seen rs k e l ∨ (e2 = e ∧ l2 = l) := by
  constructor
  · rintro ⟨i, hi, d, hd⟩
    by_cases hk : i = k
    · subst hk
      rw [h] at hd
      injection hd with hd
      injection hd with h1 h2
      injection h2 with h2 h3
      exact .inr ⟨h1, h2⟩
    · exact .inl ⟨i, by omega, d, hd⟩
  · rintro (⟨i, hi, d, hd⟩ | ⟨rfl, rfl⟩)
    · exact ⟨i, by omega, d, hd⟩
    · exact ⟨k, by omega, d2, h⟩
set_option maxRecDepth 100000 in
set_option maxHeartbeats 64000000 in
theorem refnew_any (mo : Bool) (A : Option Addr) (n c : Nat) (rs : List (Int × Int × Int)) (w : World) (h : RR w A n rs) (hn : n ≤ 70) : Calls Try.prog 11 #[.slice A n c, .bool mo] w fun r w' => r = .returned (.int .i64 (refE mo rs)) ∧ Below w.heap.size w w' := by
  have HR := Lib.hid h
  have HN : Hid (n ≤ 70) := hn
  have hln := h.ln
  by_cases h64 : 64 < n
  · have g0 : decide (64 < (n : Int)) = true := by simp; omega
    have g1 : (64 : Int) < (n : Int) := by omega
    have HE : Hid (refE mo rs = 8) := if_pos (by omega)
    clear h hn hln h64
    go_enter Try.func11, Try.ntmps11
    go_wp2_with fail
    go_ret
    exact ⟨by rw [HE.out]; rfl, Below.refl _ _⟩
  have g0 : decide (64 < (n : Int)) = false := by simp; omega
  have g1 : ¬ (64 : Int) < (n : Int) := by omega
  have HRF : Hid (refE mo rs = (newL mo rs []).1) := if_neg (by omega)
  clear h hn hln h64
  go_enter Try.func11, Try.ntmps11
  go_upto_block 0 with fail
  clear g0 g1
  go_cut [5] (fun ix wx => (newL mo rs []).1 = 0 ∧ Below w.heap.size w wx)
  case first =>
    go_wp2_with fail
    go_loopw [5] (fun iv wr => RNR n mo rs w iv wr) (fun i _ => n - (intOf i).toNat)
    case atStart => exact ⟨⟨0, [], Nat.zero_le _, rfl, rfl, fun e l => ⟨fun h => (by simp [getL, look] at h), fun ⟨k, hk, _⟩ => by omega⟩, Below.refl _ _⟩⟩
    case round =>
      obtain ⟨⟨j, R, hj, rfl, hf, hsn, hb⟩⟩ := hrel
      have HB := Lib.hid hb
      have HSN := Lib.hid hsn
      clear hb hsn
      by_cases hlt : j < n
      rotate_left
      · have hjI : ¬ (j : Int) < (n : Int) := by omega
        have g0 : decide ((j : Int) < (n : Int)) = false := by simp; omega
        have hd : rs.drop j = [] := List.drop_eq_nil_of_le (by have := HR.out.ln; omega)
        rw [hd] at hf
        have HE : Hid ((newL mo rs []).1 = 0) := by rw [← hf]; rfl
        clear hlt hj hf hd
        go_wp2_with fail
        go_meet
        exact ⟨HE.out, HB.out⟩
      have hjI : (j : Int) < (n : Int) := by omega
      have g0 : decide ((j : Int) < (n : Int)) = true := by simp; omega
      have hjl : j < rs.length := by have := HR.out.ln; omega
      obtain ⟨x, hx⟩ : ∃ x, rs[j] = x := ⟨_, rfl⟩
      have hx' : rs[j]? = some x := by rw [List.getElem?_eq_getElem hjl, hx]
      have hd : rs.drop j = x :: rs.drop (j + 1) := by rw [List.drop_eq_getElem_cons hjl, hx]
      obtain ⟨b, off, hA, hbl, c0, c1, c2⟩ := HR.out.ex j x hx'
      subst hA
      obtain ⟨e, l, d⟩ := x
      have HXJ := Lib.hid hx'
      have HD := Lib.hid hd
      have HF := Lib.hid hf
      have HBL : Hid (b < w.heap.size) := hbl
      have q0 : wr.cell? ⟨b, off + j * 3, none⟩ = some (.int .i64 e) := (HB.out.cell hbl).trans c0
      have q1 : wr.cell? ⟨b, off + j * 3 + 1, none⟩ = some (.int .i64 l) := (HB.out.cell hbl).trans c1
      have q2 : wr.cell? ⟨b, off + j * 3 + 2, none⟩ = some (.int .i64 d) := (HB.out.cell hbl).trans c2
      have HX : Hid (j < n ∧ n ≤ 70) := ⟨hlt, HN.out⟩
      have hj70 : (j : Int) < 70 := by have := HN.out; omega
      have hy1 : (wr.alloc (.cells #[.int .i64 0, .int .i64 0, .int .i64 0] 51)).heap[wr.heap.size]? = some (.cells #[.int .i64 0, .int .i64 0, .int .i64 0] 51 (0, 0)) := heap_alloc_new _ _
      have b1 : Below w.heap.size w (wr.alloc (.cells #[.int .i64 0, .int .i64 0, .int .i64 0] 51)) := HB.out.alloc HB.out.size _
      have hwl : w.heap.size ≤ wr.heap.size := HB.out.size
      obtain ⟨Y, hY⟩ : ∃ Y, wr.heap.size = Y := ⟨_, rfl⟩
      obtain ⟨W1, hW1⟩ : ∃ W, wr.alloc (.cells #[.int .i64 0, .int .i64 0, .int .i64 0] 51) = W := ⟨_, rfl⟩
      rw [hW1] at hy1 b1
      rw [hY] at hy1 hwl
      have z0 : W1.frozen? ⟨Y, 0, none⟩ = false := (row_cell hy1 0).2
      have z1 : W1.frozen? ⟨Y, 1, none⟩ = false := (row_cell hy1 1).2
      have z2 : W1.frozen? ⟨Y, 2, none⟩ = false := (row_cell hy1 2).2
      have y0 : W1.cell? ⟨Y, 0, none⟩ = some (.int .i64 0) := by rw [(row_cell hy1 0).1]; rfl
      have y1 : W1.cell? ⟨Y, 1, none⟩ = some (.int .i64 0) := by rw [(row_cell hy1 1).1]; rfl
      have y2 : W1.cell? ⟨Y, 2, none⟩ = some (.int .i64 0) := by rw [(row_cell hy1 2).1]; rfl
      have hs := set_at (set_at (set_at hy1 0 (.int .i64 e)) 1 (.int .i64 l)) 2 (.int .i64 d)
      have b2 : Below w.heap.size w (((W1.setCell ⟨Y, 0, none⟩ (.int .i64 e)).setCell ⟨Y, 1, none⟩ (.int .i64 l)).setCell ⟨Y, 2, none⟩ (.int .i64 d)) := ((b1.setCell (by exact hwl) _).setCell (by exact hwl) _).setCell (by exact hwl) _
      obtain ⟨W2, hW2⟩ : ∃ W, ((W1.setCell ⟨Y, 0, none⟩ (.int .i64 e)).setCell ⟨Y, 1, none⟩ (.int .i64 l)).setCell ⟨Y, 2, none⟩ (.int .i64 d) = W := ⟨_, rfl⟩
      rw [hW2] at hs b2
      have B2 := Lib.hid b2
      have p0 : W2.cell? ⟨Y, 0, none⟩ = some (.int .i64 e) := by rw [(row_cell hs 0).1]; rfl
      have p1 : W2.cell? ⟨Y, 1, none⟩ = some (.int .i64 l) := by rw [(row_cell hs 1).1]; rfl
      have p2 : W2.cell? ⟨Y, 2, none⟩ = some (.int .i64 d) := by rw [(row_cell hs 2).1]; rfl
      clear hy1 b1 hs b2 hwl c0 c1 c2 hbl hx hx' hjl hd hf hlt hj HB
      go_upto_region 7 with fail
      clear hW2 hW1 hY z0 z1 z2 y0 y1 y2 q0 q1 q2
      go_cut [51] (fun bv wx => bv = .bool (badB mo e l) ∧ wx = W2)
      case first =>
        by_cases h1 : e < 1
        · have e1 : decide (e < 1) = true := by simpa using h1
          have HBB : Hid (badB mo e l = true) := by unfold Hid badB; rw [decide_eq_false (fun hh : errP e => by have := hh.1; omega)]; rfl
          go_wp2_with fail
          go_meet
          exact ⟨by rw [HBB.out], rfl⟩
        have e1 : decide (e < 1) = false := by simpa using h1
        by_cases h2 : 27 < e
        · have e2 : decide (27 < e) = true := by simpa using h2
          have HBB : Hid (badB mo e l = true) := by unfold Hid badB; rw [decide_eq_false (fun hh : errP e => by have := hh.2; omega)]; rfl
          go_wp2_with fail
          go_meet
          exact ⟨by rw [HBB.out], rfl⟩
        have e2 : decide (27 < e) = false := by simpa using h2
        have hep : decide (errP e) = true := decide_eq_true ⟨by omega, by omega⟩
        cases mo
        · by_cases h3 : l = 0
          · subst h3
            have HBB : Hid (badB false e 0 = false) := by unfold Hid badB; rw [hep]; rfl
            go_wp2_with fail
            go_meet
            exact ⟨by rw [HBB.out], rfl⟩
          have e3 : (l != 0) = true := by simpa using h3
          by_cases h4 : l = 1
          · subst h4
            have HBB : Hid (badB false e 1 = false) := by unfold Hid badB; rw [hep]; rfl
            go_wp2_with fail
            go_meet
            exact ⟨by rw [HBB.out], rfl⟩
          have e4 : (l != 1) = true := by simpa using h4
          have HBB : Hid (badB false e l = true) := by unfold Hid badB lvB; rw [hep]; simp [h3, h4]
          go_wp2_with fail
          go_meet
          exact ⟨by rw [HBB.out], rfl⟩
        · by_cases h3 : l = 2
          · subst h3
            have HBB : Hid (badB true e 2 = false) := by unfold Hid badB; rw [hep]; rfl
            go_wp2_with fail
            go_meet
            exact ⟨by rw [HBB.out], rfl⟩
          have e3 : (l != 2) = true := by simpa using h3
          have HBB : Hid (badB true e l = true) := by unfold Hid badB lvB; rw [hep]; simp [h3]
          go_wp2_with fail
          go_meet
          exact ⟨by rw [HBB.out], rfl⟩
      case rest =>
        obtain ⟨hv, hw⟩ := hcut
        subst hw
        subst hv
        cases hbb : badB mo e l
        rotate_left
        · have HBB := Lib.hid hbb
          clear hbb
          have HE : Hid ((newL mo rs []).1 = 2) := by
            have h1 : addE mo R e l d = 2 := if_pos (fun hh => by have h9 := HBB.out; unfold badB at h9; rw [decide_eq_true hh.1, hh.2] at h9; cases h9)
            unfold Hid
            rw [← HF.out, HD.out]
            show (if addE mo R e l d = 0 then _ else (addE mo R e l d, R)).1 = 2
            rw [h1]; rfl
          go_wp2_with fail
          go_ret
          exact ⟨by rw [HRF.out, HE.out]; rfl, B2.out⟩
        have hep : errP e := by
          by_cases h : errP e
          · exact h
          · unfold badB at hbb; rw [decide_eq_false h] at hbb; cases hbb
        have hlv : lvB mo l = true := by unfold badB at hbb; rw [decide_eq_true hep] at hbb; simpa using hbb
        have HEP := Lib.hid hep
        have HLV := Lib.hid hlv
        clear hbb
        have hl3 : l = 0 ∨ l = 1 ∨ l = 2 := by
          cases mo
          · unfold lvB at hlv; simp at hlv; omega
          · unfold lvB at hlv; simp at hlv; omega
        clear hep hlv
        go_upto_region 9 with fail
        go_cut [7] (fun mv wx => mv = .bool (posB l d) ∧ wx = wc)
        case first =>
          rcases hl3 with rfl | rfl | rfl
          · skip
            by_cases d0 : d = 0
            · subst d0
              go_wp2_with fail
              go_meet
              exact ⟨rfl, rfl⟩
            have f0 : (d == 0) = false := by simpa using d0
            by_cases d1 : d = 1
            · subst d1
              go_wp2_with fail
              go_meet
              exact ⟨rfl, rfl⟩
            have f1 : (d == 1) = false := by simpa using d1
            by_cases d2 : d = 2
            · subst d2
              go_wp2_with fail
              go_meet
              exact ⟨rfl, rfl⟩
            have f2 : (d == 2) = false := by simpa using d2
            by_cases d3 : d = 3
            · subst d3
              go_wp2_with fail
              go_meet
              exact ⟨rfl, rfl⟩
            have f3 : (d == 3) = false := by simpa using d3
            by_cases d4 : d = 4
            · subst d4
              go_wp2_with fail
              go_meet
              exact ⟨rfl, rfl⟩
            have f4 : (d == 4) = false := by simpa using d4
            by_cases d5 : d = 5
            · subst d5
              go_wp2_with fail
              go_meet
              exact ⟨rfl, rfl⟩
            have f5 : (d == 5) = false := by simpa using d5
            by_cases d6 : d = 6
            · subst d6
              go_wp2_with fail
              go_meet
              exact ⟨rfl, rfl⟩
            have f6 : (d == 6) = false := by simpa using d6
            have HP : Hid (posB 0 d = false) := by unfold Hid posB; rw [if_neg (by omega), if_neg (by omega), if_neg (by omega)]
            go_wp2_with fail
            go_meet
            exact ⟨by rw [HP.out], rfl⟩
          · skip
            by_cases d0 : d = 0
            · subst d0
              go_wp2_with fail
              go_meet
              exact ⟨rfl, rfl⟩
            have f0 : (d == 0) = false := by simpa using d0
            by_cases d1 : d = 1
            · subst d1
              go_wp2_with fail
              go_meet
              exact ⟨rfl, rfl⟩
            have f1 : (d == 1) = false := by simpa using d1
            by_cases d2 : d = 2
            · subst d2
              go_wp2_with fail
              go_meet
              exact ⟨rfl, rfl⟩
            have f2 : (d == 2) = false := by simpa using d2
            by_cases d3 : d = 3
            · subst d3
              go_wp2_with fail
              go_meet
              exact ⟨rfl, rfl⟩
            have f3 : (d == 3) = false := by simpa using d3
            by_cases d4 : d = 4
            · subst d4
              go_wp2_with fail
              go_meet
              exact ⟨rfl, rfl⟩
            have f4 : (d == 4) = false := by simpa using d4
            by_cases d5 : d = 5
            · subst d5
              go_wp2_with fail
              go_meet
              exact ⟨rfl, rfl⟩
            have f5 : (d == 5) = false := by simpa using d5
            by_cases d6 : d = 6
            · subst d6
              go_wp2_with fail
              go_meet
              exact ⟨rfl, rfl⟩
            have f6 : (d == 6) = false := by simpa using d6
            have HP : Hid (posB 1 d = false) := by unfold Hid posB; rw [if_neg (by omega), if_neg (by omega), if_neg (by omega)]
            go_wp2_with fail
            go_meet
            exact ⟨by rw [HP.out], rfl⟩
          · skip
            by_cases d0 : d = 0
            · subst d0
              go_wp2_with fail
              go_meet
              exact ⟨rfl, rfl⟩
            have f0 : (d == 0) = false := by simpa using d0
            by_cases d1 : d = 1
            · subst d1
              go_wp2_with fail
              go_meet
              exact ⟨rfl, rfl⟩
            have f1 : (d == 1) = false := by simpa using d1
            by_cases d2 : d = 2
            · subst d2
              go_wp2_with fail
              go_meet
              exact ⟨rfl, rfl⟩
            have f2 : (d == 2) = false := by simpa using d2
            by_cases d3 : d = 3
            · subst d3
              go_wp2_with fail
              go_meet
              exact ⟨rfl, rfl⟩
            have f3 : (d == 3) = false := by simpa using d3
            by_cases d4 : d = 4
            · subst d4
              go_wp2_with fail
              go_meet
              exact ⟨rfl, rfl⟩
            have f4 : (d == 4) = false := by simpa using d4
            by_cases d5 : d = 5
            · subst d5
              go_wp2_with fail
              go_meet
              exact ⟨rfl, rfl⟩
            have f5 : (d == 5) = false := by simpa using d5
            by_cases d6 : d = 6
            · subst d6
              go_wp2_with fail
              go_meet
              exact ⟨rfl, rfl⟩
            have f6 : (d == 6) = false := by simpa using d6
            have HP : Hid (posB 2 d = false) := by unfold Hid posB; rw [if_neg (by omega), if_neg (by omega), if_neg (by omega)]
            go_wp2_with fail
            go_meet
            exact ⟨by rw [HP.out], rfl⟩
        case rest =>
          obtain ⟨hv, hw⟩ := hcut
          subst hv
          subst hw
          cases hpb : posB l d
          · have HPB := Lib.hid hpb
            clear hpb
            have HE : Hid ((newL mo rs []).1 = 1) := by
              have h1 : addE mo R e l d = 1 := by unfold addE; rw [if_neg (fun hh => hh ⟨HEP.out, HLV.out⟩)]; exact if_pos HPB.out
              unfold Hid
              rw [← HF.out, HD.out]
              show (if addE mo R e l d = 0 then _ else (addE mo R e l d, R)).1 = 1
              rw [h1]; rfl
            go_wp2_with fail
            go_ret
            exact ⟨by rw [HRF.out, HE.out]; rfl, B2.out⟩
          have HPB := Lib.hid hpb
          clear hpb
          go_upto_block 2 with fail
          obtain ⟨V, hV⟩ : ∃ V, V = wc := ⟨_, rfl⟩
          subst hV
          · skip
            go_wp2_with fail
            go_loopw [8] (fun kv wr2 => RKR j rs e l V kv wr2) (fun k _ => j - (intOf k).toNat)
            case atStart => exact ⟨⟨0, Nat.zero_le _, rfl, fun ⟨k, hk, _⟩ => by omega, 0, rfl⟩⟩
            case round =>
              obtain ⟨⟨k, hk, rfl, hns, m, hwr⟩⟩ := hrel
              have HWR := Lib.hid hwr
              have B2r : Hid (Below w.heap.size w wr) := by rw [hwr]; exact below_drewN B2.out m
              have p0r : wr.cell? ⟨Y, 0, none⟩ = some (.int .i64 e) := by rw [hwr]; exact p0
              have p1r : wr.cell? ⟨Y, 1, none⟩ = some (.int .i64 l) := by rw [hwr]; exact p1
              clear hwr
              have HNS := Lib.hid hns
              clear hns
              by_cases hlt : k < j
              rotate_left
              · have hkI : ¬ (k : Int) < (j : Int) := by omega
                have g0k : decide ((k : Int) < (j : Int)) = false := by simp; omega
                have hkj : k = j := by omega
                have HNJ : Hid (¬ seen rs j e l) := by rw [← hkj]; exact HNS.out
                clear HNS
                have HNS := HNJ
                clear hlt hk hkj
                have A0 : Hid (addE mo R e l d = 0 ∧ addR mo R e l d = putL R e l d) := by
                  have h1 : addE mo R e l d = 0 := by
                    unfold addE
                    rw [if_neg (fun hh => hh ⟨HEP.out, HLV.out⟩), if_neg (by rw [HPB.out]; simp), if_neg (fun h => HNS.out ((HSN.out e l).1 h))]
                  exact ⟨h1, by unfold addR; rw [if_pos h1]⟩
                have HF2 : Hid (newL mo (rs.drop (j + 1)) (putL R e l d) = newL mo rs []) := by
                  unfold Hid
                  rw [← HF.out, HD.out]
                  show _ = if addE mo R e l d = 0 then newL mo (rs.drop (j + 1)) (addR mo R e l d) else _
                  rw [if_pos A0.out.1, A0.out.2]
                have HS2 : Hid (∀ e' l', (getL (putL R e l d) e' l').isSome = true ↔ seen rs (j + 1) e' l') := fun e' l' => by
                  rw [get_put, seen_step HXJ.out, ← HSN.out e' l']
                  by_cases h : e' = e ∧ l' = l
                  · rw [if_pos h]; exact ⟨fun _ => .inr ⟨h.1.symm, h.2.symm⟩, fun _ => rfl⟩
                  · rw [if_neg h]; exact ⟨.inl, fun h2 => by rcases h2 with h2 | h2; exact h2; exact absurd ⟨h2.1.symm, h2.2.symm⟩ h⟩
                go_wp2_with fail
                go_roundw
                case rel =>
                  have Q : RNR n mo rs w (.int .i64 ((j : Int) + 1)) wr := ⟨⟨j + 1, putL R e l d, HX.out.1, by go_num, HF2.out, HS2.out, B2r.out⟩⟩
                  first | exact Q | ((repeat apply Exists.intro); exact ⟨Q, rfl⟩)
                case measure => have := HX.out; simp [intOf]; omega
              have hkI : (k : Int) < (j : Int) := by omega
              have g0k : decide ((k : Int) < (j : Int)) = true := by simp; omega
              have hkl : k < rs.length := by have := HR.out.ln; have := HX.out; omega
              have hkn : (k : Int) < (n : Int) := by have := HX.out; omega
              have hk70 : (k : Int) < 70 := by have := HX.out; omega
              obtain ⟨x2, hx2⟩ : ∃ x, rs[k] = x := ⟨_, rfl⟩
              have hx2' : rs[k]? = some x2 := by rw [List.getElem?_eq_getElem hkl, hx2]
              obtain ⟨bb, oo, hbo, hbl2, k0', k1', _⟩ := HR.out.ex k x2 hx2'
              obtain ⟨e2, l2, d2⟩ := x2
              injection hbo with hbo
              injection hbo with hb1 ho1
              subst hb1
              subst ho1
              have HXK := Lib.hid hx2'
              have HKX : Hid (k < j) := hlt
              have k0 := (B2r.out.cell hbl2).trans k0'
              have k1 := (B2r.out.cell hbl2).trans k1'
              clear hx2 hx2' hbl2 k0' k1' hkl hlt hk
              by_cases he2 : e2 = e
              rotate_left
              · have ge : (e2 == e) = false := by simpa using he2
                have HS : Hid (¬ seen rs (k + 1) e l) := fun h => by
                  rcases (seen_step HXK.out).1 h with h | h
                  · exact HNS.out h
                  · exact he2 h.1
                clear he2
                go_wp2_with fail
                refine wp_region_held_drew (S := (fun w' => w' = wr.drew ∧ w'.cell? ⟨b, off + k * 3, none⟩ = some (.int .i64 e2) ∧ w'.cell? ⟨b, off + k * 3 + 1, none⟩ = some (.int .i64 l2) ∧ w'.cell? ⟨Y, 0, none⟩ = some (.int .i64 e) ∧ w'.cell? ⟨Y, 1, none⟩ = some (.int .i64 l))) (by kernel_rfl) ⟨rfl, k0, k1, p0r, p1r⟩ (fun hHeld => ?_)
                refine takeD (i := 0) (d := some 102) (v := ?_) _ rfl rfl (by kernel_rfl) (by kernel_rfl) (by kernel_rfl) (fun _ _ _ h => h) (by rfl) ?_ (by assumption) ?_
                rotate_left
                · (intro w hSw; (try dsimp only at hSw); go_simp) <;> with_reducible rfl
                try simp only [Act.put, List.setIfInBounds_toArray, List.set_cons_zero, List.set_cons_succ]
                refine takeD (i := 1) (d := some 103) (v := ?_) _ rfl rfl (by kernel_rfl) (by kernel_rfl) (by kernel_rfl) (fun _ _ _ h => h) (by rfl) ?_ (by assumption) ?_
                rotate_left
                · (intro w hSw; (try dsimp only at hSw); go_simp) <;> with_reducible rfl
                try simp only [Act.put, List.setIfInBounds_toArray, List.set_cons_zero, List.set_cons_succ]
                refine takeD (i := 2) (d := some 104) (v := ?_) _ rfl rfl (by kernel_rfl) (by kernel_rfl) (by kernel_rfl) (fun _ _ _ h => h) (by rfl) ?_ (by assumption) ?_
                rotate_left
                · (intro w hSw; (try dsimp only at hSw); go_simp) <;> with_reducible rfl
                try simp only [Act.put, List.setIfInBounds_toArray, List.set_cons_zero, List.set_cons_succ]
                refine takeD (i := 3) (d := some 105) (v := ?_) _ rfl rfl (by kernel_rfl) (by kernel_rfl) (by kernel_rfl) (fun _ _ _ h => h) (by rfl) ?_ (by assumption) ?_
                rotate_left
                · (intro w hSw; (try dsimp only at hSw); go_simp) <;> with_reducible rfl
                try simp only [Act.put, List.setIfInBounds_toArray, List.set_cons_zero, List.set_cons_succ]
                refine takeD (i := 4) (d := some 106) (v := ?_) _ rfl rfl (by kernel_rfl) (by kernel_rfl) (by kernel_rfl) (fun _ _ _ h => h) (by rfl) ?_ (by assumption) ?_
                rotate_left
                · (intro w hSw; (try dsimp only at hSw); go_simp) <;> with_reducible rfl
                try simp only [Act.put, List.setIfInBounds_toArray, List.set_cons_zero, List.set_cons_succ]
                refine takeD (i := 5) (d := some 107) (v := ?_) _ rfl rfl (by kernel_rfl) (by kernel_rfl) (by kernel_rfl) (fun _ _ _ h => h) (by rfl) ?_ (by assumption) ?_
                rotate_left
                · (intro w hSw; (try dsimp only at hSw); go_simp) <;> with_reducible rfl
                try simp only [Act.put, List.setIfInBounds_toArray, List.set_cons_zero, List.set_cons_succ]
                refine takeD (i := 6) (d := some 108) (v := ?_) _ rfl rfl (by kernel_rfl) (by kernel_rfl) (by kernel_rfl) (fun _ _ _ h => h) (by rfl) ?_ (by assumption) ?_
                rotate_left
                · (intro w hSw; (try dsimp only at hSw); go_simp) <;> with_reducible rfl
                try simp only [Act.put, List.setIfInBounds_toArray, List.set_cons_zero, List.set_cons_succ]
                refine takeD (i := 7) (d := some 109) (v := ?_) _ rfl rfl (by kernel_rfl) (by kernel_rfl) (by kernel_rfl) (fun _ _ _ h => h) (by rfl) ?_ (by assumption) ?_
                rotate_left
                · (intro w hSw; (try dsimp only at hSw); go_simp) <;> with_reducible rfl
                try simp only [Act.put, List.setIfInBounds_toArray, List.set_cons_zero, List.set_cons_succ]
                refine takeD (i := 8) (d := some 110) (v := ?_) _ rfl rfl (by kernel_rfl) (by kernel_rfl) (by kernel_rfl) (fun _ _ _ h => h) (by rfl) ?_ (by assumption) ?_
                rotate_left
                · (intro w hSw; (try dsimp only at hSw); go_simp) <;> with_reducible rfl
                try simp only [Act.put, List.setIfInBounds_toArray, List.set_cons_zero, List.set_cons_succ]
                refine skipD (i := 9) (d := some 111) _ rfl rfl (by kernel_rfl) (by kernel_rfl) (by kernel_rfl) (fun _ _ _ h => h) (by rfl) (by assumption) ?_
                try simp only [Act.put, List.setIfInBounds_toArray, List.set_cons_zero, List.set_cons_succ]
                refine skipD (i := 10) (d := some 112) _ rfl rfl (by kernel_rfl) (by kernel_rfl) (by kernel_rfl) (fun _ _ _ h => h) (by rfl) (by assumption) ?_
                try simp only [Act.put, List.setIfInBounds_toArray, List.set_cons_zero, List.set_cons_succ]
                refine skipD (i := 11) (d := some 113) _ rfl rfl (by kernel_rfl) (by kernel_rfl) (by kernel_rfl) (fun _ _ _ h => h) (by rfl) (by assumption) ?_
                try simp only [Act.put, List.setIfInBounds_toArray, List.set_cons_zero, List.set_cons_succ]
                refine skipD (i := 12) (d := some 114) _ rfl rfl (by kernel_rfl) (by kernel_rfl) (by kernel_rfl) (fun _ _ _ h => h) (by rfl) (by assumption) ?_
                try simp only [Act.put, List.setIfInBounds_toArray, List.set_cons_zero, List.set_cons_succ]
                refine skipD (i := 13) (d := some 115) _ rfl rfl (by kernel_rfl) (by kernel_rfl) (by kernel_rfl) (fun _ _ _ h => h) (by rfl) (by assumption) ?_
                try simp only [Act.put, List.setIfInBounds_toArray, List.set_cons_zero, List.set_cons_succ]
                refine skipD (i := 14) (d := some 116) _ rfl rfl (by kernel_rfl) (by kernel_rfl) (by kernel_rfl) (fun _ _ _ h => h) (by rfl) (by assumption) ?_
                try simp only [Act.put, List.setIfInBounds_toArray, List.set_cons_zero, List.set_cons_succ]
                refine skipD (i := 15) (d := some 117) _ rfl rfl (by kernel_rfl) (by kernel_rfl) (by kernel_rfl) (fun _ _ _ h => h) (by rfl) (by assumption) ?_
                try simp only [Act.put, List.setIfInBounds_toArray, List.set_cons_zero, List.set_cons_succ]
                refine skipD (i := 16) (d := some 118) _ rfl rfl (by kernel_rfl) (by kernel_rfl) (by kernel_rfl) (fun _ _ _ h => h) (by rfl) (by assumption) ?_
                try simp only [Act.put, List.setIfInBounds_toArray, List.set_cons_zero, List.set_cons_succ]
                refine takeD (i := 17) (d := some 119) (v := ?_) _ rfl rfl (by kernel_rfl) (by kernel_rfl) (by kernel_rfl) (fun _ _ _ h => h) (by rfl) ?_ (by assumption) ?_
                rotate_left
                · (intro w hSw; (try dsimp only at hSw); go_simp) <;> with_reducible rfl
                try simp only [Act.put, List.setIfInBounds_toArray, List.set_cons_zero, List.set_cons_succ]
                refine wpAnyH_done (by kernel_rfl) ?_ _
                clear hHeld
                go_wp2_with fail
                go_roundw
                case rel =>
                  have Q : RKR j rs e l V (.int .i64 ((k : Int) + 1)) wr.drew := ⟨⟨k + 1, HKX.out, by go_num, HS.out, m + 1, by rw [HWR.out]; exact World.drewN_drewN V m 1⟩⟩
                  first | exact Q | ((repeat apply Exists.intro); exact ⟨Q, rfl⟩)
                case measure => have := HKX.out; simp [intOf]; omega
              by_cases hl2 : l2 = l
              rotate_left
              · have ge : (e2 == e) = true := by simpa using he2
                have gl : (l2 == l) = false := by simpa using hl2
                have HS : Hid (¬ seen rs (k + 1) e l) := fun h => by
                  rcases (seen_step HXK.out).1 h with h | h
                  · exact HNS.out h
                  · exact hl2 h.2
                clear he2 hl2
                go_wp2_with fail
                refine wp_region_held_drew (S := (fun w' => w' = wr.drew ∧ w'.cell? ⟨b, off + k * 3, none⟩ = some (.int .i64 e2) ∧ w'.cell? ⟨b, off + k * 3 + 1, none⟩ = some (.int .i64 l2) ∧ w'.cell? ⟨Y, 0, none⟩ = some (.int .i64 e) ∧ w'.cell? ⟨Y, 1, none⟩ = some (.int .i64 l))) (by kernel_rfl) ⟨rfl, k0, k1, p0r, p1r⟩ (fun hHeld => ?_)
                refine takeD (i := 0) (d := some 102) (v := ?_) _ rfl rfl (by kernel_rfl) (by kernel_rfl) (by kernel_rfl) (fun _ _ _ h => h) (by rfl) ?_ (by assumption) ?_
                rotate_left
                · (intro w hSw; (try dsimp only at hSw); go_simp) <;> with_reducible rfl
                try simp only [Act.put, List.setIfInBounds_toArray, List.set_cons_zero, List.set_cons_succ]
                refine takeD (i := 1) (d := some 103) (v := ?_) _ rfl rfl (by kernel_rfl) (by kernel_rfl) (by kernel_rfl) (fun _ _ _ h => h) (by rfl) ?_ (by assumption) ?_
                rotate_left
                · (intro w hSw; (try dsimp only at hSw); go_simp) <;> with_reducible rfl
                try simp only [Act.put, List.setIfInBounds_toArray, List.set_cons_zero, List.set_cons_succ]
                refine takeD (i := 2) (d := some 104) (v := ?_) _ rfl rfl (by kernel_rfl) (by kernel_rfl) (by kernel_rfl) (fun _ _ _ h => h) (by rfl) ?_ (by assumption) ?_
                rotate_left
                · (intro w hSw; (try dsimp only at hSw); go_simp) <;> with_reducible rfl
                try simp only [Act.put, List.setIfInBounds_toArray, List.set_cons_zero, List.set_cons_succ]
                refine takeD (i := 3) (d := some 105) (v := ?_) _ rfl rfl (by kernel_rfl) (by kernel_rfl) (by kernel_rfl) (fun _ _ _ h => h) (by rfl) ?_ (by assumption) ?_
                rotate_left
                · (intro w hSw; (try dsimp only at hSw); go_simp) <;> with_reducible rfl
                try simp only [Act.put, List.setIfInBounds_toArray, List.set_cons_zero, List.set_cons_succ]
                refine takeD (i := 4) (d := some 106) (v := ?_) _ rfl rfl (by kernel_rfl) (by kernel_rfl) (by kernel_rfl) (fun _ _ _ h => h) (by rfl) ?_ (by assumption) ?_
                rotate_left
                · (intro w hSw; (try dsimp only at hSw); go_simp) <;> with_reducible rfl
                try simp only [Act.put, List.setIfInBounds_toArray, List.set_cons_zero, List.set_cons_succ]
                refine takeD (i := 5) (d := some 107) (v := ?_) _ rfl rfl (by kernel_rfl) (by kernel_rfl) (by kernel_rfl) (fun _ _ _ h => h) (by rfl) ?_ (by assumption) ?_
                rotate_left
                · (intro w hSw; (try dsimp only at hSw); go_simp) <;> with_reducible rfl
                try simp only [Act.put, List.setIfInBounds_toArray, List.set_cons_zero, List.set_cons_succ]
                refine takeD (i := 6) (d := some 108) (v := ?_) _ rfl rfl (by kernel_rfl) (by kernel_rfl) (by kernel_rfl) (fun _ _ _ h => h) (by rfl) ?_ (by assumption) ?_
                rotate_left
                · (intro w hSw; (try dsimp only at hSw); go_simp) <;> with_reducible rfl
                try simp only [Act.put, List.setIfInBounds_toArray, List.set_cons_zero, List.set_cons_succ]
                refine takeD (i := 7) (d := some 109) (v := ?_) _ rfl rfl (by kernel_rfl) (by kernel_rfl) (by kernel_rfl) (fun _ _ _ h => h) (by rfl) ?_ (by assumption) ?_
                rotate_left
                · (intro w hSw; (try dsimp only at hSw); go_simp) <;> with_reducible rfl
                try simp only [Act.put, List.setIfInBounds_toArray, List.set_cons_zero, List.set_cons_succ]
                refine takeD (i := 8) (d := some 110) (v := ?_) _ rfl rfl (by kernel_rfl) (by kernel_rfl) (by kernel_rfl) (fun _ _ _ h => h) (by rfl) ?_ (by assumption) ?_
                rotate_left
                · (intro w hSw; (try dsimp only at hSw); go_simp) <;> with_reducible rfl
                try simp only [Act.put, List.setIfInBounds_toArray, List.set_cons_zero, List.set_cons_succ]
                refine takeD (i := 9) (d := some 111) (v := ?_) _ rfl rfl (by kernel_rfl) (by kernel_rfl) (by kernel_rfl) (fun _ _ _ h => h) (by rfl) ?_ (by assumption) ?_
                rotate_left
                · (intro w hSw; (try dsimp only at hSw); go_simp) <;> with_reducible rfl
                try simp only [Act.put, List.setIfInBounds_toArray, List.set_cons_zero, List.set_cons_succ]
                refine takeD (i := 10) (d := some 112) (v := ?_) _ rfl rfl (by kernel_rfl) (by kernel_rfl) (by kernel_rfl) (fun _ _ _ h => h) (by rfl) ?_ (by assumption) ?_
                rotate_left
                · (intro w hSw; (try dsimp only at hSw); go_simp) <;> with_reducible rfl
                try simp only [Act.put, List.setIfInBounds_toArray, List.set_cons_zero, List.set_cons_succ]
                refine takeD (i := 11) (d := some 113) (v := ?_) _ rfl rfl (by kernel_rfl) (by kernel_rfl) (by kernel_rfl) (fun _ _ _ h => h) (by rfl) ?_ (by assumption) ?_
                rotate_left
                · (intro w hSw; (try dsimp only at hSw); go_simp) <;> with_reducible rfl
                try simp only [Act.put, List.setIfInBounds_toArray, List.set_cons_zero, List.set_cons_succ]
                refine takeD (i := 12) (d := some 114) (v := ?_) _ rfl rfl (by kernel_rfl) (by kernel_rfl) (by kernel_rfl) (fun _ _ _ h => h) (by rfl) ?_ (by assumption) ?_
                rotate_left
                · (intro w hSw; (try dsimp only at hSw); go_simp) <;> with_reducible rfl
                try simp only [Act.put, List.setIfInBounds_toArray, List.set_cons_zero, List.set_cons_succ]
                refine takeD (i := 13) (d := some 115) (v := ?_) _ rfl rfl (by kernel_rfl) (by kernel_rfl) (by kernel_rfl) (fun _ _ _ h => h) (by rfl) ?_ (by assumption) ?_
                rotate_left
                · (intro w hSw; (try dsimp only at hSw); go_simp) <;> with_reducible rfl
                try simp only [Act.put, List.setIfInBounds_toArray, List.set_cons_zero, List.set_cons_succ]
                refine takeD (i := 14) (d := some 116) (v := ?_) _ rfl rfl (by kernel_rfl) (by kernel_rfl) (by kernel_rfl) (fun _ _ _ h => h) (by rfl) ?_ (by assumption) ?_
                rotate_left
                · (intro w hSw; (try dsimp only at hSw); go_simp) <;> with_reducible rfl
                try simp only [Act.put, List.setIfInBounds_toArray, List.set_cons_zero, List.set_cons_succ]
                refine takeD (i := 15) (d := some 117) (v := ?_) _ rfl rfl (by kernel_rfl) (by kernel_rfl) (by kernel_rfl) (fun _ _ _ h => h) (by rfl) ?_ (by assumption) ?_
                rotate_left
                · (intro w hSw; (try dsimp only at hSw); go_simp) <;> with_reducible rfl
                try simp only [Act.put, List.setIfInBounds_toArray, List.set_cons_zero, List.set_cons_succ]
                refine takeD (i := 16) (d := some 118) (v := ?_) _ rfl rfl (by kernel_rfl) (by kernel_rfl) (by kernel_rfl) (fun _ _ _ h => h) (by rfl) ?_ (by assumption) ?_
                rotate_left
                · (intro w hSw; (try dsimp only at hSw); go_simp) <;> with_reducible rfl
                try simp only [Act.put, List.setIfInBounds_toArray, List.set_cons_zero, List.set_cons_succ]
                refine takeD (i := 17) (d := some 119) (v := ?_) _ rfl rfl (by kernel_rfl) (by kernel_rfl) (by kernel_rfl) (fun _ _ _ h => h) (by rfl) ?_ (by assumption) ?_
                rotate_left
                · (intro w hSw; (try dsimp only at hSw); go_simp) <;> with_reducible rfl
                try simp only [Act.put, List.setIfInBounds_toArray, List.set_cons_zero, List.set_cons_succ]
                refine wpAnyH_done (by kernel_rfl) ?_ _
                clear hHeld
                go_wp2_with fail
                go_roundw
                case rel =>
                  have Q : RKR j rs e l V (.int .i64 ((k : Int) + 1)) wr.drew := ⟨⟨k + 1, HKX.out, by go_num, HS.out, m + 1, by rw [HWR.out]; exact World.drewN_drewN V m 1⟩⟩
                  first | exact Q | ((repeat apply Exists.intro); exact ⟨Q, rfl⟩)
                case measure => have := HKX.out; simp [intOf]; omega
              have ge : (e2 == e) = true := by simpa using he2
              have gl : (l2 == l) = true := by simpa using hl2
              have HSE : Hid ((getL R e l).isSome = true) := (HSN.out e l).2 ⟨k, HKX.out, d2, by rw [HXK.out, he2, hl2]⟩
              have HE : Hid ((newL mo rs []).1 = 7) := by
                have h1 : addE mo R e l d = 7 := by unfold addE; rw [if_neg (fun hh => hh ⟨HEP.out, HLV.out⟩), if_neg (by rw [HPB.out]; simp), if_pos HSE.out]
                unfold Hid
                rw [← HF.out, HD.out]
                show (if addE mo R e l d = 0 then _ else (addE mo R e l d, R)).1 = 7
                rw [h1]; rfl
              clear he2 hl2
              go_wp2_with fail
              refine wp_region_held_drew (S := (fun w' => w' = wr.drew ∧ w'.cell? ⟨b, off + k * 3, none⟩ = some (.int .i64 e2) ∧ w'.cell? ⟨b, off + k * 3 + 1, none⟩ = some (.int .i64 l2) ∧ w'.cell? ⟨Y, 0, none⟩ = some (.int .i64 e) ∧ w'.cell? ⟨Y, 1, none⟩ = some (.int .i64 l))) (by kernel_rfl) ⟨rfl, k0, k1, p0r, p1r⟩ (fun hHeld => ?_)
              refine takeD (i := 0) (d := some 102) (v := ?_) _ rfl rfl (by kernel_rfl) (by kernel_rfl) (by kernel_rfl) (fun _ _ _ h => h) (by rfl) ?_ (by assumption) ?_
              rotate_left
              · (intro w hSw; (try dsimp only at hSw); go_simp) <;> with_reducible rfl
              try simp only [Act.put, List.setIfInBounds_toArray, List.set_cons_zero, List.set_cons_succ]
              refine takeD (i := 1) (d := some 103) (v := ?_) _ rfl rfl (by kernel_rfl) (by kernel_rfl) (by kernel_rfl) (fun _ _ _ h => h) (by rfl) ?_ (by assumption) ?_
              rotate_left
              · (intro w hSw; (try dsimp only at hSw); go_simp) <;> with_reducible rfl
              try simp only [Act.put, List.setIfInBounds_toArray, List.set_cons_zero, List.set_cons_succ]
              refine takeD (i := 2) (d := some 104) (v := ?_) _ rfl rfl (by kernel_rfl) (by kernel_rfl) (by kernel_rfl) (fun _ _ _ h => h) (by rfl) ?_ (by assumption) ?_
              rotate_left
              · (intro w hSw; (try dsimp only at hSw); go_simp) <;> with_reducible rfl
              try simp only [Act.put, List.setIfInBounds_toArray, List.set_cons_zero, List.set_cons_succ]
              refine takeD (i := 3) (d := some 105) (v := ?_) _ rfl rfl (by kernel_rfl) (by kernel_rfl) (by kernel_rfl) (fun _ _ _ h => h) (by rfl) ?_ (by assumption) ?_
              rotate_left
              · (intro w hSw; (try dsimp only at hSw); go_simp) <;> with_reducible rfl
              try simp only [Act.put, List.setIfInBounds_toArray, List.set_cons_zero, List.set_cons_succ]
              refine takeD (i := 4) (d := some 106) (v := ?_) _ rfl rfl (by kernel_rfl) (by kernel_rfl) (by kernel_rfl) (fun _ _ _ h => h) (by rfl) ?_ (by assumption) ?_
              rotate_left
              · (intro w hSw; (try dsimp only at hSw); go_simp) <;> with_reducible rfl
              try simp only [Act.put, List.setIfInBounds_toArray, List.set_cons_zero, List.set_cons_succ]
              refine takeD (i := 5) (d := some 107) (v := ?_) _ rfl rfl (by kernel_rfl) (by kernel_rfl) (by kernel_rfl) (fun _ _ _ h => h) (by rfl) ?_ (by assumption) ?_
              rotate_left
              · (intro w hSw; (try dsimp only at hSw); go_simp) <;> with_reducible rfl
              try simp only [Act.put, List.setIfInBounds_toArray, List.set_cons_zero, List.set_cons_succ]
              refine takeD (i := 6) (d := some 108) (v := ?_) _ rfl rfl (by kernel_rfl) (by kernel_rfl) (by kernel_rfl) (fun _ _ _ h => h) (by rfl) ?_ (by assumption) ?_
              rotate_left
              · (intro w hSw; (try dsimp only at hSw); go_simp) <;> with_reducible rfl
              try simp only [Act.put, List.setIfInBounds_toArray, List.set_cons_zero, List.set_cons_succ]
              refine takeD (i := 7) (d := some 109) (v := ?_) _ rfl rfl (by kernel_rfl) (by kernel_rfl) (by kernel_rfl) (fun _ _ _ h => h) (by rfl) ?_ (by assumption) ?_
              rotate_left
              · (intro w hSw; (try dsimp only at hSw); go_simp) <;> with_reducible rfl
              try simp only [Act.put, List.setIfInBounds_toArray, List.set_cons_zero, List.set_cons_succ]
              refine takeD (i := 8) (d := some 110) (v := ?_) _ rfl rfl (by kernel_rfl) (by kernel_rfl) (by kernel_rfl) (fun _ _ _ h => h) (by rfl) ?_ (by assumption) ?_
              rotate_left
              · (intro w hSw; (try dsimp only at hSw); go_simp) <;> with_reducible rfl
              try simp only [Act.put, List.setIfInBounds_toArray, List.set_cons_zero, List.set_cons_succ]
              refine takeD (i := 9) (d := some 111) (v := ?_) _ rfl rfl (by kernel_rfl) (by kernel_rfl) (by kernel_rfl) (fun _ _ _ h => h) (by rfl) ?_ (by assumption) ?_
              rotate_left
              · (intro w hSw; (try dsimp only at hSw); go_simp) <;> with_reducible rfl
              try simp only [Act.put, List.setIfInBounds_toArray, List.set_cons_zero, List.set_cons_succ]
              refine takeD (i := 10) (d := some 112) (v := ?_) _ rfl rfl (by kernel_rfl) (by kernel_rfl) (by kernel_rfl) (fun _ _ _ h => h) (by rfl) ?_ (by assumption) ?_
              rotate_left
              · (intro w hSw; (try dsimp only at hSw); go_simp) <;> with_reducible rfl
              try simp only [Act.put, List.setIfInBounds_toArray, List.set_cons_zero, List.set_cons_succ]
              refine takeD (i := 11) (d := some 113) (v := ?_) _ rfl rfl (by kernel_rfl) (by kernel_rfl) (by kernel_rfl) (fun _ _ _ h => h) (by rfl) ?_ (by assumption) ?_
              rotate_left
              · (intro w hSw; (try dsimp only at hSw); go_simp) <;> with_reducible rfl
              try simp only [Act.put, List.setIfInBounds_toArray, List.set_cons_zero, List.set_cons_succ]
              refine takeD (i := 12) (d := some 114) (v := ?_) _ rfl rfl (by kernel_rfl) (by kernel_rfl) (by kernel_rfl) (fun _ _ _ h => h) (by rfl) ?_ (by assumption) ?_
              rotate_left
              · (intro w hSw; (try dsimp only at hSw); go_simp) <;> with_reducible rfl
              try simp only [Act.put, List.setIfInBounds_toArray, List.set_cons_zero, List.set_cons_succ]
              refine takeD (i := 13) (d := some 115) (v := ?_) _ rfl rfl (by kernel_rfl) (by kernel_rfl) (by kernel_rfl) (fun _ _ _ h => h) (by rfl) ?_ (by assumption) ?_
              rotate_left
              · (intro w hSw; (try dsimp only at hSw); go_simp) <;> with_reducible rfl
              try simp only [Act.put, List.setIfInBounds_toArray, List.set_cons_zero, List.set_cons_succ]
              refine takeD (i := 14) (d := some 116) (v := ?_) _ rfl rfl (by kernel_rfl) (by kernel_rfl) (by kernel_rfl) (fun _ _ _ h => h) (by rfl) ?_ (by assumption) ?_
              rotate_left
              · (intro w hSw; (try dsimp only at hSw); go_simp) <;> with_reducible rfl
              try simp only [Act.put, List.setIfInBounds_toArray, List.set_cons_zero, List.set_cons_succ]
              refine takeD (i := 15) (d := some 117) (v := ?_) _ rfl rfl (by kernel_rfl) (by kernel_rfl) (by kernel_rfl) (fun _ _ _ h => h) (by rfl) ?_ (by assumption) ?_
              rotate_left
              · (intro w hSw; (try dsimp only at hSw); go_simp) <;> with_reducible rfl
              try simp only [Act.put, List.setIfInBounds_toArray, List.set_cons_zero, List.set_cons_succ]
              refine takeD (i := 16) (d := some 118) (v := ?_) _ rfl rfl (by kernel_rfl) (by kernel_rfl) (by kernel_rfl) (fun _ _ _ h => h) (by rfl) ?_ (by assumption) ?_
              rotate_left
              · (intro w hSw; (try dsimp only at hSw); go_simp) <;> with_reducible rfl
              try simp only [Act.put, List.setIfInBounds_toArray, List.set_cons_zero, List.set_cons_succ]
              refine takeD (i := 17) (d := some 119) (v := ?_) _ rfl rfl (by kernel_rfl) (by kernel_rfl) (by kernel_rfl) (fun _ _ _ h => h) (by rfl) ?_ (by assumption) ?_
              rotate_left
              · (intro w hSw; (try dsimp only at hSw); go_simp) <;> with_reducible rfl
              try simp only [Act.put, List.setIfInBounds_toArray, List.set_cons_zero, List.set_cons_succ]
              refine wpAnyH_done (by kernel_rfl) ?_ _
              clear hHeld
              go_wp2_with fail
              go_ret
              exact ⟨by rw [HRF.out, HE.out]; rfl, B2r.out.drew⟩
  case rest =>
    obtain ⟨h0, hb⟩ := hcut
    have H0 := Lib.hid h0
    have HB := Lib.hid hb
    clear h0 hb
    go_wp2_with fail
    go_ret
    exact ⟨by rw [HRF.out, H0.out]; rfl, HB.out⟩
end Go.Proofs.Ythnlkfcfiieddaa.Hl
