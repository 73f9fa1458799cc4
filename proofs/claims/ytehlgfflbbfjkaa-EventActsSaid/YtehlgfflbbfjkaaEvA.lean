/-
  What an event does. Each statement bears its own conditions.
-/
import Derived.Test.YtehlgfflbbfjkaaIvD
namespace Go.Proofs.Ytehlgfflbbfjkaa.E
open Go.RowKit Go.Proofs.Ytehlgfflbbfjkaa.I
set_option linter.unusedVariables false
set_option linter.unusedSimpArgs false
/-- Who waits once one more asks. -/
def waitI (up : Bool) (L : List Int) (id : Int) : List Int := if up = true then L else if id ∈ L then L else L ++ [id]
theorem waitI_len (up : Bool) (L : List Int) (id : Int) : (waitI up L id).length ≤ L.length + 1 := by
  unfold waitI; split
  · omega
  · split
    · omega
    · simp
/-- An event's list, in a row apart from it. -/
theorem EV.rows {lo : Nat} {w : World} {g rb : Nat} {up : Bool} {L : List Int} (h : EV lo w g rb up L) :
    ∃ v rx, w.heap[g]? = some (.cells #[.bool up, v] 45 (0, 0)) ∧ RowV w v rx L ∧ rx ≠ g ∧ ((v = .slice none 0 0 ∧ L = [] ∧ rb = g ∧ w.heap.size + 9 ≤ rx) ∨ (rx = rb ∧ rb ≠ g)) := by
  obtain ⟨v, a, b, c⟩ := h.ex
  rcases c with ⟨rfl, hc⟩ | hc
  · have hL : L = [] := by
      have := b.own.2
      rcases this with ⟨_, h0⟩ | ⟨q, cap, cur, hv, _⟩
      · exact List.eq_nil_of_length_eq_zero h0
      · cases hv
    subst hL
    exact ⟨_, w.heap.size + 9, a, ⟨b.own, fun q hq => by cases hq⟩, by have := h.lt; omega, .inl ⟨rfl, rfl, hc, Nat.le_refl _⟩⟩
  · exact ⟨v, rb, a, b, hc, .inr ⟨rfl, hc⟩⟩
theorem EV.nil {lo : Nat} {w : World} {g : Nat} {up : Bool} (hl : lo ≤ g) (h : w.heap[g]? = some (.cells #[.bool up, .slice none 0 0] 45 (0, 0))) : EV lo w g g up [] := by
  have hlt : g < w.heap.size := (Array.getElem?_eq_some_iff.1 h).1
  exact ⟨⟨hl, hl⟩, ⟨hlt, hlt⟩, _, h, ⟨World.ownsRow_nil _ _ _ _, fun q hq => by cases hq⟩, .inl ⟨rfl, rfl⟩⟩
theorem new_any (w : World) : Calls Try.prog 9 #[] w fun e w' => e = .returned (.pointer (some ⟨w.heap.size, 0, none⟩)) ∧ EV w.heap.size w' w.heap.size w.heap.size false [] ∧ Below w.heap.size w w' := by
  go_enter Try.func9, Try.ntmps9
  go_wp2_with fail
  go_ret
  exact ⟨rfl, EV.nil (Nat.le_refl _) (heap_alloc_new w _), (Below.refl _ _).alloc (Nat.le_refl _) _⟩
theorem up_any (lo g rb : Nat) (up : Bool) (L : List Int) (w : World) (h : EV lo w g rb up L) :
    Calls Try.prog 12 #[.pointer (some ⟨g, 0, none⟩)] w fun e w' => e = .returned (.bool up) ∧ w' = w := by
  have he : ∀ (x : Nat) (w : World), (binOp .neq 23 (.pointer (some ⟨x, 0, none⟩)) (.pointer none)).run Try.prog w = .ok (.bool true) w := fun _ _ => rfl
  obtain ⟨v, a, b, c⟩ := h.ex
  have d0 : w.cell? ⟨g, 0, none⟩ = some (.bool up) := by rw [(row_cell a 0).1]; rfl
  clear a b c h
  go_enter Try.func12, Try.ntmps12
  go_wp2_with fail
  go_ret
  exact ⟨rfl, rfl⟩
theorem waiting_any (lo g rb : Nat) (up : Bool) (L : List Int) (w : World) (h : EV lo w g rb up L) (hL : L.length ≤ 1000) :
    Calls Try.prog 14 #[.pointer (some ⟨g, 0, none⟩)] w fun e w' => ∃ A n c rb', e = .returned (.slice A n c) ∧ RowV w' (.slice A n c) rb' L ∧ (Value.slice A n c = .slice none 0 0 ∨ (w.heap.size ≤ rb' ∧ rb' < w'.heap.size)) ∧ Below w.heap.size w w' := by
  have he : ∀ (x : Nat) (w : World), (binOp .eql 23 (.pointer (some ⟨x, 0, none⟩)) (.pointer none)).run Try.prog w = .ok (.bool false) w := fun _ _ => rfl
  obtain ⟨v, rx, a, b, c, _⟩ := h.rows
  have d1 : w.cell? ⟨g, 1, none⟩ = some v := by rw [(row_cell a 1).1]; rfl
  have CL := Lib.hid (clone_any v rx L w b hL)
  obtain ⟨A, n, hv⟩ := slice_form b.own
  subst hv
  clear a b c h
  go_enter Try.func14, Try.ntmps14
  go_wp2_with fail
  refine CL.out.mono ?_
  rintro e w1 ⟨A2, n2, c2, rb2, rfl, q1, q2, q3⟩
  have Q1 := Lib.hid q1
  have Q2 := Lib.hid q2
  have Q3 := Lib.hid q3
  clear q1 q2 q3
  go_wp2_with fail
  go_ret
  exact ⟨A2, n2, c2, rb2, rfl, Q1.out, Q2.out, Q3.out⟩
theorem reset_any (lo g rb : Nat) (up : Bool) (L : List Int) (w : World) (h : EV lo w g rb up L) :
    Calls Try.prog 22 #[.pointer (some ⟨g, 0, none⟩)] w fun e w' => e = .returned (.tuple #[]) ∧ EV lo w' g rb false L ∧ Nx g rb rb w w' := by
  have he : ∀ (x : Nat) (w : World), (binOp .neq 23 (.pointer (some ⟨x, 0, none⟩)) (.pointer none)).run Try.prog w = .ok (.bool true) w := fun _ _ => rfl
  obtain ⟨v, a, b, c⟩ := h.ex
  have d0 : w.cell? ⟨g, 0, none⟩ = some (.bool up) := by rw [(row_cell a 0).1]; rfl
  have f0 : w.frozen? ⟨g, 0, none⟩ = false := (row_cell a 0).2
  have Q : Hid (EV lo (w.setCell ⟨g, 0, none⟩ (.bool false)) g rb false L ∧ Nx g rb rb w (w.setCell ⟨g, 0, none⟩ (.bool false))) := by
    have hs := set_at a 0 (.bool false)
    have hp : Past g w (w.setCell ⟨g, 0, none⟩ (.bool false)) := (Past.refl g w).setCell 0 _
    refine ⟨⟨h.low, ⟨Nat.lt_of_lt_of_le h.lt.1 hp.size, Nat.lt_of_lt_of_le h.lt.2 hp.size⟩, v, hs, b.keep ?_, c⟩, Ch.of_past hp, .inl rfl⟩
    rcases c with c | c
    · exact .inl c.1
    · exact .inr (hp.block rb h.lt.2 c)
  clear a b c h
  go_enter Try.func22, Try.ntmps22
  go_wp2_with (first | go_end0)
  try go_end0
  first | exact Q.out | exact ⟨rfl, Q.out⟩
theorem set_any (lo g rb : Nat) (up : Bool) (L : List Int) (w : World) (h : EV lo w g rb up L) :
    Calls Try.prog 19 #[.pointer (some ⟨g, 0, none⟩)] w fun e w' => ∃ A n c rx, e = .returned (.slice A n c) ∧ RowV w' (.slice A n c) rx L ∧ (Value.slice A n c = .slice none 0 0 ∨ (rx = rb ∧ rb < w.heap.size ∧ rb ≠ g)) ∧ EV lo w' g g true [] ∧ Nx g rb g w w' := by
  have he : ∀ (x : Nat) (w : World), (binOp .eql 23 (.pointer (some ⟨x, 0, none⟩)) (.pointer none)).run Try.prog w = .ok (.bool false) w := fun _ _ => rfl
  obtain ⟨v, rx, a, b, c, d⟩ := h.rows
  have d0 : w.cell? ⟨g, 0, none⟩ = some (.bool up) := by rw [(row_cell a 0).1]; rfl
  have f0 : w.frozen? ⟨g, 0, none⟩ = false := (row_cell a 0).2
  have d1 : w.cell? ⟨g, 1, none⟩ = some v := by rw [(row_cell a 1).1]; rfl
  have f1 : w.frozen? ⟨g, 1, none⟩ = false := (row_cell a 1).2
  obtain ⟨A, n, hv⟩ := slice_form b.own
  subst hv
  have Q : Hid (RowV ((w.setCell ⟨g, 0, none⟩ (.bool true)).setCell ⟨g, 1, none⟩ (.slice none 0 0)) (.slice A L.length n) rx L ∧ (Value.slice A L.length n = .slice none 0 0 ∨ (rx = rb ∧ rb < w.heap.size ∧ rb ≠ g)) ∧ EV lo ((w.setCell ⟨g, 0, none⟩ (.bool true)).setCell ⟨g, 1, none⟩ (.slice none 0 0)) g g true [] ∧ Nx g rb g w ((w.setCell ⟨g, 0, none⟩ (.bool true)).setCell ⟨g, 1, none⟩ (.slice none 0 0))) := by
    have hs := set_at (set_at a 0 (.bool true)) 1 (.slice none 0 0)
    have hp : Past g w ((w.setCell ⟨g, 0, none⟩ (.bool true)).setCell ⟨g, 1, none⟩ (.slice none 0 0)) := ((Past.refl g w).setCell 0 _).setCell 1 _
    refine ⟨b.keep ?_, ?_, EV.nil h.low.1 hs, Ch.of_past hp, .inr (.inl rfl)⟩
    · rcases d with d | d
      · exact .inl d.1
      · rw [d.1]; exact .inr (hp.block rb h.lt.2 d.2)
    · rcases d with d | d
      · exact .inl d.1
      · exact .inr ⟨d.1, h.lt.2, d.2⟩
  obtain ⟨m, hm⟩ : ∃ m, L.length = m := ⟨_, rfl⟩
  rw [hm] at Q d1
  clear a b c d h hm
  go_enter Try.func19, Try.ntmps19
  go_wp2_with fail
  go_ret
  obtain ⟨q1, q2, q3, q4⟩ := Q.out
  exact ⟨A, m, n, rx, rfl, q1, q2, q3, q4⟩
set_option maxRecDepth 100000 in
set_option maxHeartbeats 2000000 in
theorem wait_any (lo g rb : Nat) (up : Bool) (L : List Int) (id : Int) (w : World) (h : EV lo w g rb up L) (hL : L.length ≤ 999) :
    Calls Try.prog 15 #[.pointer (some ⟨g, 0, none⟩), .int .i64 id] w fun e w' => e = .returned (.bool up) ∧ ∃ rb', EV lo w' g rb' up (waitI up L id) ∧ Nx g rb rb' w w' := by
  have he : ∀ (x : Nat) (w : World), (binOp .eql 23 (.pointer (some ⟨x, 0, none⟩)) (.pointer none)).run Try.prog w = .ok (.bool false) w := fun _ _ => rfl
  obtain ⟨v, rx, a, b, c, d⟩ := h.rows
  have d0 : w.cell? ⟨g, 0, none⟩ = some (.bool up) := by rw [(row_cell a 0).1]; rfl
  have d1 : w.cell? ⟨g, 1, none⟩ = some v := by rw [(row_cell a 1).1]; rfl
  have CN := Lib.hid (contains_any v rx L id w b (by omega))
  obtain ⟨i0, hi, hz0, hz1, hz2⟩ := info_of int_info
  have HO := Lib.hid b.own
  have HA := Lib.hid a
  have HB := Lib.hid b
  have HC := Lib.hid c
  have HD := Lib.hid d
  have HH := Lib.hid h
  have HL := Lib.hid hL
  obtain ⟨A, n, hv⟩ := slice_form b.own
  subst hv
  obtain ⟨m, hm⟩ : ∃ m, L.length = m := ⟨_, rfl⟩
  have HM := Lib.hid hm
  rw [hm] at CN HO HB HD d1 HA
  clear a b c d h hm hL
  cases up with
  | true =>
    go_enter Try.func15, Try.ntmps15
    go_wp2_with fail
    go_ret
    exact ⟨rfl, rb, HH.out, Nx.refl _ _ _⟩
  | false =>
    by_cases hid : id ∈ L
    · have HI : Hid (waitI false L id = L) := by unfold Hid waitI; rw [if_neg (by simp), if_pos hid]
      rw [decide_eq_true hid] at CN
      clear hid
      go_enter Try.func15, Try.ntmps15
      go_wp2_with (go_at_call 25; refine CN.out.mono ?_; rintro _ w1 ⟨rfl, hw⟩; have hw := hw.symm; subst hw)
      go_ret
      exact ⟨rfl, rb, by rw [HI.out]; exact HH.out, Nx.refl _ _ _⟩
    · have HI : Hid (waitI false L id = L ++ [id]) := by unfold Hid waitI; rw [if_neg (by simp), if_neg hid]
      rw [decide_eq_false hid] at CN
      clear hid
      have HO1 : Hid ((w.alloc (.cells #[.int .i64 id] 3)).ownsRow 0 3 1 (.slice A m n) m (C L)) := own_below HO.out ((Below.refl _ _).alloc (Nat.le_refl _) _)
      have RD := Lib.hid (one_row (w := w) (.int .i64 id) 3)
      go_enter Try.func15, Try.ntmps15
      go_wp2_with (first | (go_at_call 25; refine CN.out.mono ?_; rintro _ w1 ⟨rfl, hw⟩; have hw := hw.symm; subst hw) | (at_builtin; refine wpList_append_any _ rfl _ _ 26 rfl 0 3 i0 (.int .i64 0) 1 8 Try.underlying26 hi hz0 hz1 hz2 rfl (by decide) _ _ _ rfl HO1.out (w.heap.size + 1) (some ⟨w.heap.size, 0, none⟩) 1 1 [.int .i64 id] rfl RD.out ?c2 ?c3 ?c4 ?c5 ?_))
      case c2 => intro u hu; simp at hu; subst hu; rfl
      case c3 => have := HL.out; have := HM.out; unfold maxLen; omega
      case c4 => have := HL.out; have := HM.out; omega
      case c5 => omega
      intro v2 w2 hown hgrow hblk
      have hsz : w.heap.size + 1 ≤ w2.heap.size := by have := hgrow.size; simpa using this
      have hrow : ∀ q, (Value.slice A m n).ownBlock = some q → q = rx := fun q hq => HB.out.at_ q hq
      have hbk : ∀ k, k < w.heap.size → k ≠ rx → w2.heap[k]? = w.heap[k]? := fun k hk hne => by
        rw [hgrow.block k (by simp; omega) (fun e => hne (hrow k e.symm))]
        exact ((Below.refl w.heap.size w).alloc (Nat.le_refl _) _).block k hk
      have hos : w2.os = w.os ∧ w2.tape = w.tape ∧ w2.output = w.output := ⟨hgrow.os, hgrow.tape, hgrow.output⟩
      have hg2 : w2.heap[g]? = some (.cells #[.bool false, .slice A m n] 45 (0, 0)) := (hbk g HH.out.lt.1 HC.out.symm).trans HA.out
      have e0 : w2.cell? ⟨g, 0, none⟩ = some (.bool false) := by rw [(row_cell hg2 0).1]; rfl
      have e1 : w2.cell? ⟨g, 1, none⟩ = some (.slice A m n) := by rw [(row_cell hg2 1).1]; rfl
      have e2 : w2.frozen? ⟨g, 1, none⟩ = false := (row_cell hg2 1).2
      obtain ⟨A2, c2, rfl⟩ := slice_form hown
      have Q : Hid (∃ rb', EV lo (w2.setCell ⟨g, 1, none⟩ (.slice A2 (m + 1) c2)) g rb' false (L ++ [id]) ∧ Nx g rb rb' w (w2.setCell ⟨g, 1, none⟩ (.slice A2 (m + 1) c2))) := by
        have hs := set_at hg2 1 (.slice A2 (m + 1) c2)
        have hown' : w2.ownsRow 0 3 1 (.slice A2 (m + 1) c2) (L ++ [id]).length (C (L ++ [id])) := by
          rw [C_app, List.length_append, HM.out]; exact hown
        have hlow := HH.out.low
        have hlt := HH.out.lt
        have hch : Ch g rb w (w2.setCell ⟨g, 1, none⟩ (.slice A2 (m + 1) c2)) := by
          refine ⟨hos.1, hos.2.1, hos.2.2, by simp; omega, fun k hk h1 h2 => ?_⟩
          rw [Below.heap_setCell _ _ _ _ h1]
          refine hbk k hk ?_
          rcases HD.out with d | d
          · have := d.2.2.2; omega
          · rw [d.1]; exact h2
        obtain ⟨q, hq, hqlt⟩ : ∃ q, (Value.slice A2 (m + 1) c2).ownBlock = some q ∧ q < w2.heap.size := by
          rcases hown.2 with ⟨_, h0⟩ | ⟨q, cap, cur, hv, _, hgq, _⟩
          · omega
          · exact ⟨q, by rw [hv]; rfl, (Array.getElem?_eq_some_iff.1 hgq).1⟩
        have hR : RowV w2 (.slice A2 (m + 1) c2) q (L ++ [id]) := ⟨hown', fun b e => by rw [hq] at e; injection e with e; exact e.symm⟩
        have hqx : (q = rx ∧ rx = rb ∧ rb ≠ g) ∨ w.heap.size + 1 ≤ q := by
          rcases hblk with hb | hb
          · left
            rw [hq] at hb
            have h1 := hrow q hb.symm
            rcases HD.out with d | d
            · rw [d.1] at hb; cases hb
            · exact ⟨h1, d.1, d.2⟩
          · right
            rw [hq] at hb
            injection hb with hb
            rw [hb]; simp
        have hqg : q ≠ g := by omega
        refine ⟨q, ⟨⟨hlow.1, by omega⟩, ⟨by simp; omega, by simpa using hqlt⟩, _, hs, hR.keep (.inr (Below.heap_setCell _ _ _ _ hqg)), .inr hqg⟩, hch, ?_⟩
        rcases hqx with h | h
        · exact .inl (h.1.trans h.2.1)
        · exact .inr (.inr (by omega))
      clear hown hgrow hblk hrow hbk hos hg2
      go_wp2_with fail
      go_ret
      obtain ⟨rb', q1, q2⟩ := Q.out
      exact ⟨rfl, rb', by rw [HI.out]; exact q1, q2⟩
end Go.Proofs.Ytehlgfflbbfjkaa.E
