/-
  Who waits, as numbers; where one is among them. Each statement bears its own conditions.
-/
import Derived.Test.YtobnhjkcbhajbaaSmD
import Derived.Test.YtobnhjkcbhajbaaIvE
namespace Go.Proofs.Ytobnhjkcbhajbaa.S
open Go.RowKit Go.Proofs.Ytobnhjkcbhajbaa.W
set_option linter.unusedVariables false
set_option linter.unusedSimpArgs false
theorem ids_getD (M : List (Int × Int)) (j : Nat) (h : j < M.length) : (idsP M).getD j 0 = (M.getD j (0, 0)).1 := by
  simp [idsP, List.getD_eq_getElem?_getD, List.getElem?_eq_getElem h]
theorem ids_snoc {M : List (Int × Int)} {j : Nat} (h : j < M.length) : idsP (M.take (j + 1)) = idsP (M.take j) ++ [(M.getD j (0, 0)).1] := by
  rw [W.take_getD h]; simp [idsP]
structure XRel (L : List (Int × Int)) (id : Int) (n : Nat) (w : World) (iv : Value) (wr : World) : Prop where
  ex : ∃ j : Nat, j ≤ n ∧ iv = .int .i64 (j : Int) ∧ (∀ k, k < j → (L.getD k (0, 0)).1 ≠ id) ∧ wr = w
set_option maxRecDepth 100000 in
set_option maxHeartbeats 1000000 in
theorem indexi_any (v : Value) (rb : Nat) (L : List (Int × Int)) (id : Int) (w : World) (hr : I.RowV w v rb (idsP L)) (hL : L.length ≤ 1000) :
    Calls Try.prog 27 #[v, .int .i64 id] w fun e w' => e = .returned (.int .i64 (posI L id)) ∧ w' = w := by
  obtain ⟨A, c, rfl, hc⟩ := hr.slice
  obtain ⟨n, hn⟩ : ∃ n, L.length = n := ⟨_, rfl⟩
  have hn2 : (idsP L).length = n := by rw [idsP_len]; exact hn
  have HR := Lib.hid hr
  have HN := Lib.hid hn
  have HN2 := Lib.hid hn2
  have HL := Lib.hid hL
  rw [hn2] at HR hc ⊢
  clear hr hL hn hn2
  go_enter Try.func27, Try.ntmps27
  go_wp2_with fail
  go_loopw [8] (fun i wr => XRel L id n w i wr) (fun i _ => 1001 - (intOf i).toNat)
  case atStart => exact ⟨⟨0, Nat.zero_le _, rfl, fun k hk => absurd hk (by omega), rfl⟩⟩
  case round =>
    obtain ⟨⟨j, hj, rfl, hne, rfl⟩⟩ := hrel
    have HNE := Lib.hid hne
    have HJ := Lib.hid hj
    clear hne hj
    by_cases hlt : j < n
    · obtain ⟨⟨c', hv⟩, d0, hrl⟩ := I.RowV.cells HR.out j (by rw [HN2.out]; exact hlt)
      injection hv with hv hq hcc
      subst hv hcc
      clear hq
      rw [ids_getD L j (by rw [HN.out]; exact hlt)] at d0
      have hjI : (j : Int) < (n : Int) := by omega
      have hj2 : (j : Int) < 1000 := by have := HL.out; have := HN.out; omega
      have HX : Hid (j < n) := hlt
      obtain ⟨a, ha⟩ : ∃ a, Hid ((L.getD j (0, 0)).1 = a) := ⟨_, rfl⟩
      rw [ha.out] at d0
      clear hlt hrl
      by_cases he : a = id
      · have HP : Hid (posI L id = (j : Int)) := by
          have h1 := pos_hit (L := L) (id := id) (j := j) (by rw [HN.out]; exact HX.out) HNE.out (by rw [ha.out]; exact he)
          unfold Hid posI
          rw [h1, HN.out, if_pos HX.out]
        have h1 : (a == id) = true := by rw [beq_iff_eq]; exact he
        have h2 : (id == a) = true := by rw [beq_iff_eq]; exact he.symm
        subst he
        go_wp2_with fail
        go_ret
        exact ⟨by rw [HP.out]; rfl, rfl⟩
      · have h1 : (a == id) = false := by rw [beq_eq_false_iff_ne]; exact he
        have h2 : (id == a) = false := by rw [beq_eq_false_iff_ne]; exact fun h => he h.symm
        have HN3 : Hid (∀ k, k < j + 1 → (L.getD k (0, 0)).1 ≠ id) := fun k hk => by
          by_cases e : k = j
          · subst e; rw [ha.out]; exact he
          · exact HNE.out k (by omega)
        go_wp2_with fail
        go_roundw
        case rel =>
          have Q : XRel L id n wr (.int .i64 ((j : Int) + 1)) wr := ⟨⟨j + 1, HX.out, by go_num, HN3.out, rfl⟩⟩
          first | exact Q | ((repeat apply Exists.intro); exact ⟨Q, rfl⟩)
        case measure => have := HX.out; have := HL.out; have := HN.out; simp [intOf]; omega
    · have hjI : ¬ (j : Int) < (n : Int) := by omega
      have HP : Hid (posI L id = -1) := by
        have h1 := pos_none (L := L) (id := id) (fun k hk => HNE.out k (by rw [HN.out] at hk; omega))
        unfold Hid posI
        rw [if_neg (by rw [h1]; omega)]
      clear hlt
      go_wp2_with fail
      go_ret
      exact ⟨by rw [HP.out]; rfl, rfl⟩
structure WtRel (L : List (Int × Int)) (n : Nat) (w : World) (ov iv : Value) (wr : World) : Prop where
  ex : ∃ (j c : Nat) (A : Option Addr), j ≤ n ∧ iv = .int .i64 (j : Int) ∧ ov = .slice A j c ∧ wr.ownsRow w.heap.size 3 1 (.slice A j c) j (Go.Proofs.Ytobnhjkcbhajbaa.C (idsP (L.take j))) ∧ Below w.heap.size w wr
theorem one_row {w : World} (u : Value) (t : TypeId) : Reads (w.alloc (.cells #[u] t)) (w.heap.size + 1) 1 (some ⟨w.heap.size, 0, none⟩) 1 [u] := ⟨rfl, fun _ => ⟨_, rfl, by simp, fun j u' hu => by
  match j, hu with
  | 0, hu => simp at hu; subst hu; rw [Addr.add_lit]; simp
  | j + 1, hu => simp at hu⟩⟩
set_option maxRecDepth 100000 in
set_option maxHeartbeats 2000000 in
theorem waiting_any (lo g rb : Nat) (s : SM) (L : List (Int × Int)) (w : World) (h : SV lo w g rb s L) (hL : L.length ≤ 999) :
    Calls Try.prog 21 #[.pointer (some ⟨g, 0, none⟩)] w fun e w' => ∃ A c rb', e = .returned (.slice A L.length c) ∧ I.RowV w' (.slice A L.length c) rb' (idsP L) ∧ (Value.slice A L.length c = .slice none 0 0 ∨ (w.heap.size ≤ rb' ∧ rb' < w'.heap.size)) ∧ Below w.heap.size w w' := by
  obtain ⟨i0, hi, hz0, hz1, hz2⟩ := I.info_of I.int_info
  obtain ⟨v, a, b, _⟩ := h.ex
  have d3 : w.cell? ⟨g, 3, none⟩ = some v := by rw [(row_cell a 3).1]; rfl
  obtain ⟨A, cc, hv⟩ := slice_form b.own
  subst hv
  obtain ⟨n, hn⟩ : ∃ n, L.length = n := ⟨_, rfl⟩
  have HB0 := Lib.hid b
  have HN := Lib.hid hn
  have HL := Lib.hid hL
  rw [hn] at d3 HB0 ⊢
  clear a b h hL hn
  go_enter Try.func21, Try.ntmps21
  go_wp2_with fail
  go_loopw [3, 11] (fun ov iv wr => WtRel L n w ov iv wr) (fun _ i _ => 1001 - (intOf i).toNat)
  case atStart => exact ⟨⟨0, 0, none, Nat.zero_le _, rfl, rfl, World.ownsRow_nil _ _ _ _, Below.refl _ _⟩⟩
  case round =>
    obtain ⟨⟨j, c, A1, hj, rfl, rfl, ho, hb⟩⟩ := hrel
    have HO := Lib.hid ho
    have HB := Lib.hid hb
    have HJ := Lib.hid hj
    clear ho hb hj
    by_cases hlt : j < n
    · obtain ⟨⟨c', hv⟩, e0, e1, _⟩ := HB0.out.cells j (by rw [HN.out]; exact hlt)
      injection hv with hv hq hcc
      subst hv hcc
      clear hq
      obtain ⟨x, hx⟩ : ∃ x, Hid ((L.getD j (0, 0)).1 = x) := ⟨_, rfl⟩
      obtain ⟨y, hy⟩ : ∃ y, (L.getD j (0, 0)).2 = y := ⟨_, rfl⟩
      rw [hx.out] at e0
      rw [hy] at e1
      have e0 := cell_later HB.out e0
      have e1 := cell_later HB.out e1
      have hjI : (j : Int) < (n : Int) := by omega
      have hj2 : (j : Int) < 1000 := by have := HL.out; have := HN.out; omega
      have HX : Hid (j < n) := hlt
      have HSN : Hid (idsP (L.take (j + 1)) = idsP (L.take j) ++ [x]) := by
        unfold Hid; rw [ids_snoc (by rw [HN.out]; exact hlt), hx.out]
      clear hlt hy
      have BX : Below wr.heap.size wr ((wr.alloc (.cells #[.int .i64 x, .int .i64 y] 72)).alloc (.cells #[.int .i64 x] 3)) := ((Below.refl _ _).alloc (Nat.le_refl _) _).alloc (by simp) _
      have HO1 : Hid (((wr.alloc (.cells #[.int .i64 x, .int .i64 y] 72)).alloc (.cells #[.int .i64 x] 3)).ownsRow w.heap.size 3 1 (.slice A1 j c) j (Go.Proofs.Ytobnhjkcbhajbaa.C (idsP (L.take j)))) := own_below HO.out BX
      have RD : Hid (Reads ((wr.alloc (.cells #[.int .i64 x, .int .i64 y] 72)).alloc (.cells #[.int .i64 x] 3)) (wr.heap.size + 1 + 1) 1 (some ⟨wr.heap.size + 1, 0, none⟩) 1 [.int .i64 x]) := by
        have := one_row (w := wr.alloc (.cells #[.int .i64 x, .int .i64 y] 72)) (.int .i64 x) 3
        unfold Hid
        simpa using this
      have BX1 := Lib.hid BX
      clear BX
      go_wp2_with (at_builtin; refine wpList_append_any _ rfl _ _ 46 rfl w.heap.size 3 i0 (.int .i64 0) 1 8 Try.underlying46 hi hz0 hz1 hz2 rfl (by decide) _ _ _ rfl HO1.out (wr.heap.size + 1 + 1) (some ⟨wr.heap.size + 1, 0, none⟩) 1 1 [.int .i64 x] rfl RD.out ?c2 ?c3 ?c4 ?c5 ?_)
      case c2 => intro u hu; simp at hu; subst hu; rfl
      case c3 => unfold maxLen; omega
      case c4 => omega
      case c5 => have := HB.out.size; simp; omega
      intro v' w2 hown hgrow hblk
      obtain ⟨A2, c2, rfl⟩ := slice_form hown
      have HO2 : Hid (w2.ownsRow w.heap.size 3 1 (.slice A2 (j + 1) c2) (j + 1) (Go.Proofs.Ytobnhjkcbhajbaa.C (idsP (L.take (j + 1))))) := by
        unfold Hid
        rw [HSN.out, Go.Proofs.Ytobnhjkcbhajbaa.C_app]; exact hown
      have HB2 : Hid (Below w.heap.size w w2) := by
        have h1 := HB.out.trans (BX1.out.mono HB.out.size)
        exact h1.grown hgrow (by have := HB.out.size; simp; omega) (fun k hk => (HO1.out.lt k hk).1)
      clear hown hgrow hblk e0 e1
      go_wp2_with fail
      go_roundw
      case rel =>
        have Q : WtRel L n w (.slice A2 (j + 1) c2) (.int .i64 ((j : Int) + 1)) w2 := ⟨⟨j + 1, c2, A2, HX.out, by go_num, rfl, HO2.out, HB2.out⟩⟩
        first | exact Q | ((repeat apply Exists.intro); exact ⟨Q, rfl⟩)
      case measure => have := HX.out; have := HL.out; have := HN.out; simp [intOf]; omega
    · have hjI : ¬ (j : Int) < (n : Int) := by omega
      obtain rfl : j = n := by have := HJ.out; omega
      clear hlt
      have HF : Hid (∃ rb', I.RowV wr (.slice A1 j c) rb' (idsP L) ∧ (Value.slice A1 j c = .slice none 0 0 ∨ (w.heap.size ≤ rb' ∧ rb' < wr.heap.size))) := by
        have h0 := HO.out
        rw [List.take_of_length_le (by rw [HN.out]; omega)] at h0
        rcases h0.2 with ⟨hv, h1⟩ | ⟨q, cap, cur, hv, hB, hg, r⟩
        · exact ⟨0, ⟨⟨by rw [h0.1, idsP_len, HN.out], .inl ⟨hv, by rw [idsP_len, HN.out]; exact h1⟩⟩, fun b hb => by rw [hv] at hb; cases hb⟩, .inl hv⟩
        · refine ⟨q, ⟨?_, fun b hb => by rw [hv] at hb; injection hb with hb; exact hb.symm⟩, .inr ⟨hB, (Array.getElem?_eq_some_iff.1 hg).1⟩⟩
          have h2 : (idsP L).length = j := by rw [idsP_len, HN.out]
          rw [h2]
          exact ⟨h0.1, .inr ⟨q, cap, cur, hv, Nat.zero_le _, hg, r⟩⟩
      go_wp2_with fail
      go_ret
      obtain ⟨rb', r1, r2⟩ := HF.out
      first | exact ⟨A1, c, rb', rfl, r1, r2, HB.out⟩ | exact ⟨A1, c, rfl, ⟨rb', r1, r2⟩, HB.out⟩ | exact ⟨A1, c, rfl, rb', r1, r2, HB.out⟩ | exact ⟨A1, c, rfl, rb', r1, r2.imp (fun h => by injection h with h1 h2 h3; exact ⟨h1, h2, h3⟩) id, HB.out⟩ | exact ⟨A1, c, rfl, ⟨rb', r1, r2.imp (fun h => by injection h with h1 h2 h3; exact ⟨h1, h2, h3⟩) id⟩, HB.out⟩
end Go.Proofs.Ytobnhjkcbhajbaa.S
