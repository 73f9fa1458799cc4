/-
  The law's own areas. Each statement bears its own conditions.
-/
import Derived.Test.YtliggejkpmlgfaaSpU
namespace Go.Proofs.Ytliggejkpmlgfaa
open Go.RowKit
set_option linter.unusedVariables false
set_option linter.unusedSimpArgs false
theorem lowK (K : Int) (hK : 1 ≤ K ∧ K ≤ 100) (x : Int) : ∃ u q : Nat, IntKind.u64.wrap x = (u : Int) ∧ (u : Int) % K = (q : Int) ∧ ((u : Int).tmod K) = (q : Int) ∧ (q : Int) < K ∧ IntKind.i64.wrap (q : Int) = (q : Int) := by
  obtain ⟨u, hu⟩ : ∃ u : Nat, IntKind.u64.wrap x = (u : Int) := ⟨(IntKind.u64.wrap x).toNat, by rw [IntKind.wrap_u64]; omega⟩
  have h1 : 0 ≤ (u : Int) % K := Int.emod_nonneg _ (by omega)
  have h2 : (u : Int) % K < K := Int.emod_lt_of_pos _ (by omega)
  obtain ⟨q, hq⟩ : ∃ q : Nat, (u : Int) % K = (q : Int) := ⟨((u : Int) % K).toNat, by omega⟩
  refine ⟨u, q, hu, hq, ?_, by omega, wrap_ok (by omega) (by omega)⟩
  rw [Int.tmod_eq_emod_of_nonneg (by omega)]; exact hq
/-- Areas that may be, one behind the other, the last one's end at a. -/
structure Own (l : List MA) (a : Int) : Prop where
  each : ∀ x ∈ l, 0 ≤ x.frm ∧ 1 ≤ x.wds ∧ x.wds ≤ 12 ∧ x.frm + x.wds ≤ a
  over : ovL [] l = false
  few : l.length ≤ 6
  low : 0 ≤ a
  end_ : a ≤ 16 * l.length
  sum : sumW l ≤ 12 * l.length
theorem ovL_snoc (a : MA) : ∀ (l pre : List MA), ovL pre (l ++ [a]) = (ovL pre l || (pre ++ l).any (ovB a))
  | [], pre => by simp [ovL]
  | x :: r, pre => by
    rw [List.cons_append]
    unfold ovL
    rw [ovL_snoc a r (pre ++ [x])]
    simp [Bool.or_assoc]
theorem Own.start : Own [] 0 := ⟨by simp, rfl, by simp, Int.le_refl _, by simp, by simp [sumW]⟩
theorem Own.next {l : List MA} {a : Int} (h : Own l a) (x : MA) (h6 : l.length < 6) (h1 : a ≤ x.frm) (h2 : x.frm ≤ a + 4) (h3 : 1 ≤ x.wds) (h4 : x.wds ≤ 12) : Own (l ++ [x]) (x.frm + x.wds) := by
  have := h.low
  refine ⟨fun y hy => ?_, ?_, by simp; omega, by omega, ?_, ?_⟩
  · rcases List.mem_append.1 hy with hy | hy
    · have := h.each y hy; omega
    · simp at hy; subst hy; omega
  · rw [ovL_snoc, h.over]
    rw [Bool.false_or, List.any_eq_false]
    intro y hy
    have := h.each y (by simpa using hy)
    unfold ovB
    simp; omega
  · have := h.end_
    rw [List.length_append]; simp; omega
  · have := h.sum
    rw [sumW_app, List.length_append]; simp [sumW]; omega
theorem Own.ok {l : List MA} {a : Int} (h : Own l a) : newErr l = 0 := by
  have h1 : l.all fitsB = true := List.all_eq_true.2 fun x hx => fits_iff.2 (by have := h.each x hx; have := h.end_; have := h.few; omega)
  unfold newErr
  rw [if_neg (by have := h.few; omega), if_neg (by rw [h1]; simp), if_neg (by have := h.sum; have := h.few; omega), if_neg (by rw [h.over]; simp)]
structure FxRel (n : Nat) (w : World) (v3 v4 v : Value) (wr : World) : Prop where
  ex : ∃ (k : Nat) (own : List MA) (A : Option Addr) (c : Nat) (a : Int), k ≤ n ∧ k ≤ 6 ∧ v = .int .i64 (k : Int) ∧ v3 = .slice A k c ∧ v4 = .int .i64 a ∧ own.length = k ∧ Own own a ∧ wr.ownsRow w.heap.size 57 5 (.slice A k c) k (CA own) ∧ Below w.heap.size w wr
set_option maxRecDepth 100000 in
set_option maxHeartbeats 8000000 in
theorem fix_any (g : Nat) (v : Value) (l : List MA) (w : World) (h : St g w 5 v l.length (CA l)) :
    Calls Try.prog 9 #[v] w fun e w' => (∃ own A c a, e = .returned (.slice A own.length c) ∧ Own own a ∧ w'.ownsRow w.heap.size 57 5 (.slice A own.length c) own.length (CA own)) ∧ Below w.heap.size w w' := by
  obtain ⟨i0, hinf, hz0, hz1, hz2⟩ := info_of area_info
  obtain ⟨A, c, rfl⟩ := h.form
  obtain ⟨n, hn⟩ : ∃ n, l.length = n := ⟨_, rfl⟩
  rw [hn] at h ⊢
  have HN := Lib.hid hn
  have H := Lib.hid h
  clear hn h
  go_enter Try.func9, Try.ntmps9
  go_wp2_with fail
  go_loopw [3, 4, 5] (fun v3 v4 v wr => FxRel n w v3 v4 v wr) (fun _ _ v => fun _ => 6 - (intOf v).toNat)
  case atStart => exact ⟨⟨0, [], none, 0, 0, Nat.zero_le _, Nat.zero_le _, rfl, rfl, rfl, rfl, Own.start, World.ownsRow_nil _ _ _ _, Below.refl _ _⟩⟩
  case round =>
    obtain ⟨⟨k, own, B, cb, a, hk, hk6, rfl, rfl, rfl, hol, hown, ho, hb⟩⟩ := hrel
    have HK := Lib.hid hk
    have HK6 := Lib.hid hk6
    have HOL := Lib.hid hol
    have HOW := Lib.hid hown
    have HO := Lib.hid ho
    have HB := Lib.hid hb
    clear hk hk6 hol hown ho hb
    by_cases hlt : k < n
    · have hkI : (k : Int) < (n : Int) := by omega
      have hkIb : decide ((k : Int) < (n : Int)) = true := by simpa using hkI
      by_cases hl6 : k < 6
      · have hk6I : (k : Int) < 6 := by omega
        have HX : Hid (k < n) := hlt
        have HX6 : Hid (k < 6) := hl6
        obtain ⟨_, b, off, rfl, hbl, hg, hc⟩ := H.out.at_ hlt
        have hxs : l[k]? = some (l[k]'(by have := HN.out; omega)) := List.getElem?_eq_getElem _
        obtain ⟨x, hx⟩ : ∃ x, l[k]'(by have := HN.out; omega) = x := ⟨_, rfl⟩
        rw [hx] at hxs
        have hca := CA_at hxs
        obtain ⟨xf, xw, xx, xr, xk⟩ := x
        obtain ⟨u1, q1, a1, a2, a3, a4, a5⟩ := lowK 5 (by omega) xf
        obtain ⟨u2, q2, b1, b2, b3, b4, b5⟩ := lowK 12 (by omega) xw
        have HQ : Hid ((q1 : Int) < 5 ∧ (q2 : Int) < 12) := ⟨a4, b4⟩
        have hae : 0 ≤ a ∧ a ≤ 96 := by have := HOW.out.low; have := HOW.out.end_; have := HOL.out; omega
        have hw1 : IntKind.i64.wrap (a + (q1 : Int)) = a + (q1 : Int) := wrap_ok (by omega) (by omega)
        have hw2 : IntKind.i64.wrap (1 + (q2 : Int)) = 1 + (q2 : Int) := wrap_ok (by omega) (by omega)
        have hw3 : IntKind.i64.wrap (a + (q1 : Int) + (1 + (q2 : Int))) = a + (q1 : Int) + (1 + (q2 : Int)) := wrap_ok (by omega) (by omega)
        have d0 : wr.cell? ⟨b, off + k * 5, none⟩ = some (.int .i64 xf) := by have := hc _ _ (hca 0 _ rfl); exact cell_later HB.out (by simpa [Nat.add_assoc] using this)
        have d1 : wr.cell? ⟨b, off + k * 5 + 1, none⟩ = some (.int .i64 xw) := by have := hc _ _ (hca 1 _ rfl); exact cell_later HB.out (by simpa [Nat.add_assoc] using this)
        have d2 : wr.cell? ⟨b, off + k * 5 + 2, none⟩ = some (.bool xx) := by have := hc _ _ (hca 2 _ rfl); exact cell_later HB.out (by simpa [Nat.add_assoc] using this)
        have d3 : wr.cell? ⟨b, off + k * 5 + 3, none⟩ = some (.bool xr) := by have := hc _ _ (hca 3 _ rfl); exact cell_later HB.out (by simpa [Nat.add_assoc] using this)
        have d4 : wr.cell? ⟨b, off + k * 5 + 4, none⟩ = some (.bool xk) := by have := hc _ _ (hca 4 _ rfl); exact cell_later HB.out (by simpa [Nat.add_assoc] using this)
        clear hc hca hx hlt hl6 hbl hg hxs a4 b4 hae
        have HO1 : Hid ((wr.alloc (.cells #[.int .i64 (a + (q1 : Int)), .int .i64 (1 + (q2 : Int)), .bool xx, .bool xr, .bool xk] 57)).ownsRow w.heap.size 57 5 (.slice B k cb) k (CA own)) := own_below HO.out ((Below.refl _ _).alloc (Nat.le_refl _) _)
        have HB1 : Hid (Below w.heap.size w (wr.alloc (.cells #[.int .i64 (a + (q1 : Int)), .int .i64 (1 + (q2 : Int)), .bool xx, .bool xr, .bool xk] 57))) := HB.out.alloc HB.out.size _
        have HS1 := Lib.hid HB1.out.size
        go_wp2_with (at_builtin; refine wpList_append_own _ rfl _ _ 22 rfl w.heap.size 57 i0 (.agg #[.int .i64 0, .int .i64 0, .bool false, .bool false, .bool false]) 5 24 Try.underlying22 hinf hz0 hz1 hz2 rfl (by decide) _ _ _ rfl (own_below HO1.out ((Below.refl _ _).alloc (Nat.le_refl _) _)) ⟨wr.heap.size + 1, 0, none⟩ 1 1 [.int .i64 (a + (q1 : Int)), .int .i64 (1 + (q2 : Int)), .bool xx, .bool xr, .bool xk] rfl rfl ?c1 ?c2 ?c3 ?c4 ?c5 ?_)
        try (case c1 => (intro j u hu; match j, hu with
          | 0, hu => simp at hu; subst hu; rw [Addr.add_lit]; simp
          | 1, hu => simp at hu; subst hu; rw [Addr.add_lit]; simp
          | 2, hu => simp at hu; subst hu; rw [Addr.add_lit]; simp
          | 3, hu => simp at hu; subst hu; rw [Addr.add_lit]; simp
          | 4, hu => simp at hu; subst hu; rw [Addr.add_lit]; simp
          | j + 5, hu => simp at hu))
        try (case c2 => exact ⟨rfl, rfl, rfl, rfl, rfl⟩)
        try (case c3 => have h1 := HX6.out; unfold maxLen; omega)
        try (case c4 => have h1 := HX6.out; omega)
        try (case c5 => have := HS1.out; simp at *; omega)
        intro v' w2 hown hgrow _
        obtain ⟨B2, cb2, rfl⟩ := slice_form hown
        have HO2 : Hid (w2.ownsRow w.heap.size 57 5 (.slice B2 (k + 1) cb2) (k + 1) (CA (own ++ [⟨a + (q1 : Int), 1 + (q2 : Int), xx, xr, xk⟩]))) := by
          unfold Hid; rw [CA_app]; exact hown
        have HB2 : Hid (Below w.heap.size w w2) := by
          have h1 : Below w.heap.size w ((wr.alloc (.cells #[.int .i64 (a + (q1 : Int)), .int .i64 (1 + (q2 : Int)), .bool xx, .bool xr, .bool xk] 57)).alloc (.cells #[.int .i64 (a + (q1 : Int)), .int .i64 (1 + (q2 : Int)), .bool xx, .bool xr, .bool xk] 57)) := HB1.out.alloc HB1.out.size _
          exact h1.grown hgrow (by have := HS1.out; simp at *; omega) (fun k hk => (HO1.out.lt k hk).1)
        have HOW2 : Hid (Own (own ++ [⟨a + (q1 : Int), 1 + (q2 : Int), xx, xr, xk⟩]) (a + (q1 : Int) + (1 + (q2 : Int)))) :=
          HOW.out.next ⟨a + (q1 : Int), 1 + (q2 : Int), xx, xr, xk⟩ (by have := HOL.out; have := HX6.out; omega) (by dsimp only; omega) (by dsimp only; have := HQ.out; omega) (by dsimp only; omega) (by dsimp only; have := HQ.out; omega)
        clear hown hgrow
        go_wp2_with fail
        go_roundw
        case rel =>
          have Q : FxRel n w (.slice B2 (k + 1) cb2) (.int .i64 (a + (q1 : Int) + (1 + (q2 : Int)))) (.int .i64 ((k : Int) + 1)) w2 := ⟨⟨k + 1, _, B2, cb2, _, HX.out, HX6.out, by go_num, rfl, rfl, by rw [List.length_append, HOL.out]; rfl, HOW2.out, HO2.out, HB2.out⟩⟩
          first | exact Q | ((repeat apply Exists.intro); exact ⟨Q, rfl⟩)
        case measure => have := HX6.out; simp [intOf]; omega
      · have hk6 : k = 6 := by have := HK6.out; omega
        subst hk6
        clear hlt hl6
        go_wp2_with fail
        go_ret
        exact ⟨⟨own, B, cb, a, by rw [HOL.out] <;> rfl, HOW.out, by rw [HOL.out]; exact HO.out⟩, HB.out⟩
    · have hkIb : decide ((k : Int) < (n : Int)) = false := by rw [decide_eq_false_iff_not]; omega
      have hkIc : decide (k < n) = false := by rw [decide_eq_false_iff_not]; omega
      clear hlt
      go_wp2_with fail
      go_ret
      exact ⟨⟨own, B, cb, a, by rw [HOL.out] <;> rfl, HOW.out, by rw [HOL.out]; exact HO.out⟩, HB.out⟩
end Go.Proofs.Ytliggejkpmlgfaa
