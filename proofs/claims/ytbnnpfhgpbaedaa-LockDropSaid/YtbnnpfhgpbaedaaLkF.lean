/-
  Locks: Waiting, Give. Each statement bears its own conditions.
-/
import Derived.Test.YtbnnpfhgpbaedaaLkD
namespace Go.Proofs.Ytbnnpfhgpbaedaa.K
open Go.RowKit Go.Maps Go.Proofs.Ytbnnpfhgpbaedaa.W
set_option linter.unusedVariables false
set_option linter.unusedSimpArgs false
def idsP (L : List (Int × Int)) : List Int := L.map (·.1)
theorem idsP_len (L : List (Int × Int)) : (idsP L).length = L.length := by simp [idsP]
theorem idsP_getD {L : List (Int × Int)} {k : Nat} (h : k < L.length) : (idsP L)[k]? = some (L.getD k (0, 0)).1 := by
  simp [idsP, List.getD_eq_getElem?_getD, List.getElem?_eq_getElem h]
theorem ids_snoc {M : List (Int × Int)} {j : Nat} (h : j < M.length) : idsP (M.take (j + 1)) = idsP (M.take j) ++ [(M.getD j (0, 0)).1] := by
  rw [W.take_getD h]; simp [idsP]
structure WtRel (L : List (Int × Int)) (n : Nat) (w : World) (ov iv : Value) (wr : World) : Prop where
  ex : ∃ (j c : Nat) (A : Option Addr), j ≤ n ∧ iv = .int .i64 (j : Int) ∧ ov = .slice A j c ∧ wr.ownsRow w.heap.size 3 1 (.slice A j c) j (Go.Proofs.Ytbnnpfhgpbaedaa.C (idsP (L.take j))) ∧ Below w.heap.size w wr
theorem one_row {w : World} (u : Value) (t : TypeId) : Reads (w.alloc (.cells #[u] t)) (w.heap.size + 1) 1 (some ⟨w.heap.size, 0, none⟩) 1 [u] := ⟨rfl, fun _ => ⟨_, rfl, by simp, fun j u' hu => by
  match j, hu with
  | 0, hu => simp at hu; subst hu; rw [Addr.add_lit]; simp
  | j + 1, hu => simp at hu⟩⟩
theorem waiting_none (lo g bc bw bm N : Nat) (rb : Nat → Nat) (cs : List Int) (ws : Nat → List (Int × Int)) (os : Int → Option Int) (x : Int) (w : World) (h : LV lo w g bc bw bm N rb cs ws os) (hx : ¬ (0 ≤ x ∧ x < cs.length)) :
    Calls Try.prog 26 #[.pointer (some ⟨g, 0, none⟩), .int .i64 x] w fun e w' => e = .returned (.slice none 0 0) ∧ w' = w := by
  have HA : Hid (Calls Try.prog 35 #[.pointer (some ⟨g, 0, none⟩), .int .i64 x] w fun e w' => e = .returned (.bool false) ∧ w' = w) := by
    obtain ⟨vc, cw, a1, a2, a3⟩ := h.hd
    have := has_any g cw 0 bw vc bm bc cs x w a1 a2
    rw [decide_eq_false hx] at this
    exact this
  clear h hx
  go_enter Try.func26, Try.ntmps26
  go_wp2_with fail
  refine HA.out.mono ?_
  rintro e w0 ⟨rfl, hw0⟩
  rw [hw0]
  clear hw0 w0 HA
  go_wp2_with fail
  go_ret
  exact ⟨rfl, rfl⟩
set_option maxRecDepth 100000 in
set_option maxHeartbeats 2000000 in
theorem waiting_any (lo g bc bw bm N : Nat) (rb : Nat → Nat) (cs : List Int) (ws : Nat → List (Int × Int)) (os : Int → Option Int) (i : Nat) (L : List (Int × Int)) (w : World) (h : LV lo w g bc bw bm N rb cs ws os) (hin : i < cs.length) (hwi : ws i = L) (hL : L.length ≤ 999) :
    Calls Try.prog 26 #[.pointer (some ⟨g, 0, none⟩), .int .i64 (i : Int)] w fun e w' => ∃ A c rb', e = .returned (.slice A L.length c) ∧ I.RowV w' (.slice A L.length c) rb' (idsP L) ∧ (Value.slice A L.length c = .slice none 0 0 ∨ (w.heap.size ≤ rb' ∧ rb' < w'.heap.size)) ∧ Below w.heap.size w w' := by
  obtain ⟨i0, hi, hz0, hz1, hz2⟩ := I.info_of I.int_info
  have HA : Hid (Calls Try.prog 35 #[.pointer (some ⟨g, 0, none⟩), .int .i64 (i : Int)] w fun e w' => e = .returned (.bool true) ∧ w' = w) := by
    obtain ⟨vc, cw, a1, a2, a3⟩ := h.hd
    have := has_any g cw 0 bw vc bm bc cs (i : Int) w a1 a2
    rw [decide_eq_true (by omega)] at this
    exact this
  obtain ⟨v, rb, cw, k1, k2, k3, k4, b, _⟩ := h.row hin
  rw [hwi] at b
  obtain ⟨A, cc, hv⟩ := slice_form b.own
  subst hv
  have hi0 : (0 : Int) ≤ (i : Int) := by omega
  have hiI : (i : Int) < (cs.length : Int) := by omega
  obtain ⟨nn, hnn⟩ : ∃ n, cs.length = n := ⟨_, rfl⟩
  rw [hnn] at hiI k3
  obtain ⟨n, hn⟩ : ∃ n, L.length = n := ⟨_, rfl⟩
  have HB0 := Lib.hid b
  have HN := Lib.hid hn
  have HL := Lib.hid hL
  rw [hn] at k1 HB0 ⊢
  clear b h hL hn hnn k2 k4 hwi hin
  go_enter Try.func26, Try.ntmps26
  go_wp2_with fail
  refine HA.out.mono ?_
  rintro e w0 ⟨rfl, hw0⟩
  rw [hw0]
  clear hw0 w0 HA
  go_wp2_with fail
  go_loopw [5, 20] (fun ov iv wr => WtRel L n w ov iv wr) (fun _ i _ => 1001 - (intOf i).toNat)
  case atStart => exact ⟨⟨0, 0, none, Nat.zero_le _, rfl, rfl, World.ownsRow_nil _ _ _ _, Below.refl _ _⟩⟩
  case round =>
    obtain ⟨⟨j, c, A1, hj, rfl, rfl, ho, hb⟩⟩ := hrel
    have HO := Lib.hid ho
    have HB := Lib.hid hb
    have HJ := Lib.hid hj
    clear ho hb hj
    by_cases hlt : j < n
    · obtain ⟨⟨c', hv⟩, e0, e1, _⟩ := HB0.out.cells j (by rw [HN.out]; exact hlt)
      injection hv with hv hq hcc
      subst hv hcc
      clear hq
      obtain ⟨x, hx⟩ : ∃ x, Hid ((L.getD j (0, 0)).1 = x) := ⟨_, rfl⟩
      obtain ⟨y, hy⟩ : ∃ y, (L.getD j (0, 0)).2 = y := ⟨_, rfl⟩
      rw [hx.out] at e0
      rw [hy] at e1
      have e0 := cell_later HB.out e0
      have e1 := cell_later HB.out e1
      have hjI : (j : Int) < (n : Int) := by omega
      have hj2 : (j : Int) < 1000 := by have := HL.out; have := HN.out; omega
      have HX : Hid (j < n) := hlt
      have HSN : Hid (idsP (L.take (j + 1)) = idsP (L.take j) ++ [x]) := by
        unfold Hid; rw [ids_snoc (by rw [HN.out]; exact hlt), hx.out]
      clear hlt hy
      have BX : Below wr.heap.size wr ((wr.alloc (.cells #[.int .i64 x, .int .i64 y] 76)).alloc (.cells #[.int .i64 x] 3)) := ((Below.refl _ _).alloc (Nat.le_refl _) _).alloc (by simp) _
      have HO1 : Hid (((wr.alloc (.cells #[.int .i64 x, .int .i64 y] 76)).alloc (.cells #[.int .i64 x] 3)).ownsRow w.heap.size 3 1 (.slice A1 j c) j (Go.Proofs.Ytbnnpfhgpbaedaa.C (idsP (L.take j)))) := own_below HO.out BX
      have RD : Hid (Reads ((wr.alloc (.cells #[.int .i64 x, .int .i64 y] 76)).alloc (.cells #[.int .i64 x] 3)) (wr.heap.size + 1 + 1) 1 (some ⟨wr.heap.size + 1, 0, none⟩) 1 [.int .i64 x]) := by
        have := one_row (w := wr.alloc (.cells #[.int .i64 x, .int .i64 y] 76)) (.int .i64 x) 3
        unfold Hid
        simpa using this
      have BX1 := Lib.hid BX
      clear BX
      go_wp2_with (at_builtin; refine wpList_append_any _ rfl _ _ 22 rfl w.heap.size 3 i0 (.int .i64 0) 1 8 Try.underlying22 hi hz0 hz1 hz2 rfl (by decide) _ _ _ rfl HO1.out (wr.heap.size + 1 + 1) (some ⟨wr.heap.size + 1, 0, none⟩) 1 1 [.int .i64 x] rfl RD.out ?c2 ?c3 ?c4 ?c5 ?_)
      case c2 => intro u hu; simp at hu; subst hu; rfl
      case c3 => unfold maxLen; omega
      case c4 => omega
      case c5 => have := HB.out.size; simp; omega
      intro v' w2 hown hgrow hblk
      obtain ⟨A2, c2, rfl⟩ := slice_form hown
      have HO2 : Hid (w2.ownsRow w.heap.size 3 1 (.slice A2 (j + 1) c2) (j + 1) (Go.Proofs.Ytbnnpfhgpbaedaa.C (idsP (L.take (j + 1))))) := by
        unfold Hid
        rw [HSN.out, Go.Proofs.Ytbnnpfhgpbaedaa.C_app]; exact hown
      have HB2 : Hid (Below w.heap.size w w2) := by
        have h1 := HB.out.trans (BX1.out.mono HB.out.size)
        exact h1.grown hgrow (by have := HB.out.size; simp; omega) (fun k hk => (HO1.out.lt k hk).1)
      clear hown hgrow hblk e0 e1
      go_wp2_with fail
      go_roundw
      case rel =>
        have Q : WtRel L n w (.slice A2 (j + 1) c2) (.int .i64 ((j : Int) + 1)) w2 := ⟨⟨j + 1, c2, A2, HX.out, by go_num, rfl, HO2.out, HB2.out⟩⟩
        first | exact Q | ((repeat apply Exists.intro); exact ⟨Q, rfl⟩)
      case measure => have := HX.out; have := HL.out; have := HN.out; simp [intOf]; omega
    · have hjI : ¬ (j : Int) < (n : Int) := by omega
      obtain rfl : j = n := by have := HJ.out; omega
      clear hlt
      have HF : Hid (∃ rb', I.RowV wr (.slice A1 j c) rb' (idsP L) ∧ (Value.slice A1 j c = .slice none 0 0 ∨ (w.heap.size ≤ rb' ∧ rb' < wr.heap.size))) := by
        have h0 := HO.out
        rw [List.take_of_length_le (by rw [HN.out]; omega)] at h0
        rcases h0.2 with ⟨hv, h1⟩ | ⟨q, cap, cur, hv, hB, hg, r⟩
        · exact ⟨0, ⟨⟨by rw [h0.1, idsP_len, HN.out], .inl ⟨hv, by rw [idsP_len, HN.out]; exact h1⟩⟩, fun b hb => by rw [hv] at hb; cases hb⟩, .inl hv⟩
        · refine ⟨q, ⟨?_, fun b hb => by rw [hv] at hb; injection hb with hb; exact hb.symm⟩, .inr ⟨hB, (Array.getElem?_eq_some_iff.1 hg).1⟩⟩
          have h2 : (idsP L).length = j := by rw [idsP_len, HN.out]
          rw [h2]
          exact ⟨h0.1, .inr ⟨q, cap, cur, hv, Nat.zero_le _, hg, r⟩⟩
      go_wp2_with fail
      go_ret
      obtain ⟨rb', r1, r2⟩ := HF.out
      first | exact ⟨A1, c, rb', rfl, r1, r2, HB.out⟩ | exact ⟨A1, c, rfl, ⟨rb', r1, r2⟩, HB.out⟩ | exact ⟨A1, c, rfl, rb', r1, r2, HB.out⟩ | exact ⟨A1, c, rfl, rb', r1, r2.imp (fun h => by injection h with h1 h2 h3; exact ⟨h1, h2, h3⟩) id, HB.out⟩ | exact ⟨A1, c, rfl, ⟨rb', r1, r2.imp (fun h => by injection h with h1 h2 h3; exact ⟨h1, h2, h3⟩) id⟩, HB.out⟩
set_option maxRecDepth 100000 in
set_option maxHeartbeats 2000000 in
theorem give_free (lo g bc bw bm N : Nat) (rb : Nat → Nat) (cs : List Int) (ws : Nat → List (Int × Int)) (os : Int → Option Int) (id : Int) (i : Nat) (hw : ws i = []) (w : World) (h : LV lo w g bc bw bm N rb cs ws os) (hn : cs.length ≤ 16) (hl : ∀ i, i < cs.length → (ws i).length ≤ 900) (hi : i < cs.length) (hq : NoId ws cs.length id) (ho : os (i : Int) = some id) :
    Calls Try.prog 16 #[.pointer (some ⟨g, 0, none⟩), .int .i64 id, .int .i64 (i : Int)] w fun e w' => e = .returned (.tuple #[.slice none 0 0, .int .i64 0]) ∧ LV lo w' g bc bw bm N rb cs ws (put os i none) ∧ Lx bw bm cs.length rb rb w w' := by
  have H := Lib.hid h
  have HI := Lib.hid hi
  have HL := Lib.hid hl
  have HN16 := Lib.hid hn
  have hz : ∀ w : World, (binOp .eql 24 (.pointer (some ⟨g, 0, none⟩)) (.pointer none)).run Try.prog w = .ok (.bool false) w := fun _ => rfl
  have HA : Hid (Calls Try.prog 35 #[.pointer (some ⟨g, 0, none⟩), .int .i64 (i : Int)] w fun e w' => e = .returned (.bool true) ∧ w' = w) := by
    obtain ⟨vc, cw, a1, a2, a3⟩ := h.hd
    have := has_any g cw 0 bw vc bm bc cs (i : Int) w a1 a2
    rw [decide_eq_true (by omega)] at this
    exact this
  have WA := Lib.hid (waits_any lo g bc bw bm N rb cs ws os id w h hn (fun i hi => by have := hl i hi; omega))
  rw [show (!decide (NoId ws cs.length id)) = false by simp [hq]] at WA
  have hk : (Lit.int .i64 (i : Int)).wf = true := WalkArith.wf_i64 (by omega)
  clear h hn hl hi hq
  go_enter Try.func16, Try.ntmps16
  go_wp2_with fail
  refine HA.out.mono ?_
  rintro e w0 ⟨rfl, hw0⟩
  rw [hw0]
  clear hw0 w0
  go_wp2_with fail
  refine WA.out.mono ?_
  rintro e w1 ⟨rfl, b1⟩
  have H1 := Lib.hid (H.out.below b1)
  have X1 : Hid (Lx bw bm cs.length rb rb w w1) := Lx.of_below b1
  have B1 := Lib.hid b1
  clear b1 WA HA
  have OW : Hid (Calls Try.prog 37 #[.pointer (some ⟨g, 0, none⟩), .int .i64 id, .int .i64 (i : Int)] w1 fun e w' => e = .returned (.bool true) ∧ w' = w1) := by
    obtain ⟨vc, cw, a1, a2, a3⟩ := H1.out.hd
    have := owns_any g bm N vc (.slice (some ⟨bw, 0, none⟩) cs.length cw) os id (i : Int) w1 hk a1 H1.out.mp
    rw [decide_eq_true ho] at this
    exact this
  have PA := Lib.hid (pass_none lo g bc bw bm N rb cs ws os i w1 H1.out HI.out HN16.out hw)
  go_wp2_with fail
  refine OW.out.mono ?_
  rintro e w0 ⟨rfl, hw0⟩
  rw [hw0]
  clear hw0 w0 OW
  go_wp2_with fail
  refine PA.out.mono ?_
  rintro e w2 ⟨rfl, q1, q2⟩
  have Q1 := Lib.hid q1
  have Q2 := Lib.hid q2
  clear q1 q2 PA
  go_wp2_with fail
  go_ret2
  exact ⟨rfl, Q1.out, X1.out.trans Q2.out⟩
set_option maxRecDepth 100000 in
set_option maxHeartbeats 2000000 in
theorem give_next (lo g bc bw bm N : Nat) (rb : Nat → Nat) (cs : List Int) (ws : Nat → List (Int × Int)) (os : Int → Option Int) (id : Int) (i : Nat) (x : Int × Int) (L : List (Int × Int)) (hw : ws i = x :: L) (hx : (Lit.int .i64 x.1).wf = true) (hNm : N < maxLen) (w : World) (h : LV lo w g bc bw bm N rb cs ws os) (hn : cs.length ≤ 16) (hl : ∀ i, i < cs.length → (ws i).length ≤ 900) (hi : i < cs.length) (hq : NoId ws cs.length id) (ho : os (i : Int) = some id) :
    Calls Try.prog 16 #[.pointer (some ⟨g, 0, none⟩), .int .i64 id, .int .i64 (i : Int)] w fun e w' => (∃ A c rv, e = .returned (.tuple #[.slice A 1 c, .int .i64 0]) ∧ I.RowV w' (.slice A 1 c) rv [x.1] ∧ w.heap.size ≤ rv) ∧ LV lo w' g bc bw bm (N + 1) (putN rb i (rb i)) cs (putN ws i L) (put (put os i none) i (some x.1)) ∧ Lx bw bm cs.length rb (putN rb i (rb i)) w w' := by
  have H := Lib.hid h
  have HI := Lib.hid hi
  have HL := Lib.hid hl
  have HN16 := Lib.hid hn
  have hz : ∀ w : World, (binOp .eql 24 (.pointer (some ⟨g, 0, none⟩)) (.pointer none)).run Try.prog w = .ok (.bool false) w := fun _ => rfl
  have HA : Hid (Calls Try.prog 35 #[.pointer (some ⟨g, 0, none⟩), .int .i64 (i : Int)] w fun e w' => e = .returned (.bool true) ∧ w' = w) := by
    obtain ⟨vc, cw, a1, a2, a3⟩ := h.hd
    have := has_any g cw 0 bw vc bm bc cs (i : Int) w a1 a2
    rw [decide_eq_true (by omega)] at this
    exact this
  have WA := Lib.hid (waits_any lo g bc bw bm N rb cs ws os id w h hn (fun i hi => by have := hl i hi; omega))
  rw [show (!decide (NoId ws cs.length id)) = false by simp [hq]] at WA
  have hk : (Lit.int .i64 (i : Int)).wf = true := WalkArith.wf_i64 (by omega)
  clear h hn hl hi hq
  go_enter Try.func16, Try.ntmps16
  go_wp2_with fail
  refine HA.out.mono ?_
  rintro e w0 ⟨rfl, hw0⟩
  rw [hw0]
  clear hw0 w0
  go_wp2_with fail
  refine WA.out.mono ?_
  rintro e w1 ⟨rfl, b1⟩
  have H1 := Lib.hid (H.out.below b1)
  have X1 : Hid (Lx bw bm cs.length rb rb w w1) := Lx.of_below b1
  have B1 := Lib.hid b1
  clear b1 WA HA
  have OW : Hid (Calls Try.prog 37 #[.pointer (some ⟨g, 0, none⟩), .int .i64 id, .int .i64 (i : Int)] w1 fun e w' => e = .returned (.bool true) ∧ w' = w1) := by
    obtain ⟨vc, cw, a1, a2, a3⟩ := H1.out.hd
    have := owns_any g bm N vc (.slice (some ⟨bw, 0, none⟩) cs.length cw) os id (i : Int) w1 hk a1 H1.out.mp
    rw [decide_eq_true ho] at this
    exact this
  have PA := Lib.hid (pass_some lo g bc bw bm N rb cs ws os i x L w1 H1.out HI.out HN16.out hw (by have := HL.out i HI.out; rw [hw, List.length_cons] at this; omega) hx hNm)
  go_wp2_with fail
  refine OW.out.mono ?_
  rintro e w0 ⟨rfl, hw0⟩
  rw [hw0]
  clear hw0 w0 OW
  go_wp2_with fail
  refine PA.out.mono ?_
  rintro e w2 ⟨⟨A, c, rv, rfl, r1, r2⟩, q1, q2⟩
  have Q1 := Lib.hid q1
  have Q2 := Lib.hid q2
  have R1 := Lib.hid r1
  have R2 : Hid (w.heap.size ≤ rv) := by have := B1.out.size; unfold Hid; omega
  clear q1 q2 r1 r2 PA
  go_wp2_with fail
  go_ret2
  exact ⟨⟨A, c, rv, rfl, R1.out, R2.out⟩, Q1.out, X1.out.trans Q2.out⟩
end Go.Proofs.Ytbnnpfhgpbaedaa.K
