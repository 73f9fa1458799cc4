/-
  Lists of messages, as they read in memory. Each statement bears its own conditions.
-/
import Derived.Test.YtkbjonblflhkoaaQuE
namespace Go.Proofs.Ytkbjonblflhkoaa.Q
open Go.RowKit Go.Proofs.Ytkbjonblflhkoaa.F Go.Proofs.Ytkbjonblflhkoaa.U
set_option linter.unusedVariables false
set_option linter.unusedSimpArgs false
theorem ne_us : (47 : TypeId) ≠ 33 := by decide
/-- Messages that are read. -/
structure Mr (w : World) (r : Nat → Prop) (S : List Sl) (LL : List (List Int)) : Prop where
  len : S.length = LL.length
  at_ : ∀ (i : Nat) (s : Sl) (L : List Int), S[i]? = some s → LL[i]? = some L → Sq w r (slv s) L.length (CU L)
/-- Messages that are owned. -/
structure Ms (w : World) (r : Nat → Prop) (S : List Sl) (LL : List (List Int)) : Prop where
  len : S.length = LL.length
  at_ : ∀ (i : Nat) (s : Sl) (L : List Int), S[i]? = some s → LL[i]? = some L → Ow 47 w r (slv s) L.length (CU L)
/-- Blocks of a kind of their own. -/
def Ty (w : World) (p : Nat → Prop) : Prop := ∀ b, p b → b < w.heap.size → ∃ c t fr, w.heap[b]? = some (.cells c t fr) ∧ t ≠ 47
theorem _root_.Go.Proofs.Ytkbjonblflhkoaa.F.Ow.off {w : World} {r p : Nat → Prop} {v : Value} {n : Nat} {xs : List Value} (h : Ow 47 w r v n xs) (hp : Ty w p) : Ow 47 w (fun b => r b ∧ ¬ p b) v n xs := by
  refine ⟨h.own, fun b hb => ⟨⟨(h.at_ b hb).1, fun hq => ?_⟩, (h.at_ b hb).2⟩⟩
  obtain ⟨c, t, fr, hc, ht⟩ := hp b hq (h.at_ b hb).2
  rcases h.form with ⟨rfl, _⟩ | ⟨b1, cap, cur, rfl, _, _, hg1, _⟩
  · cases hb
  · injection hb with hb
    have hb : b1 = b := hb
    subst hb
    rw [hg1] at hc
    injection hc with hc
    injection hc with _ h2
    exact ht h2.symm
section
variable {w w' : World} {r q : Nat → Prop} {S : List Sl} {LL : List (List Int)}
theorem Ms.mr (h : Ms w r S LL) : Mr w r S LL := ⟨h.len, fun i s L h1 h2 => (h.at_ i s L h1 h2).sq⟩
theorem Ms.imp (h : Ms w r S LL) (hi : ∀ b, b < w.heap.size → r b → q b) : Ms w q S LL := ⟨h.len, fun i s L h1 h2 => (h.at_ i s L h1 h2).imp hi⟩
theorem Ms.below (h : Ms w r S LL) (hb : Below w.heap.size w w') : Ms w' r S LL := ⟨h.len, fun i s L h1 h2 => (h.at_ i s L h1 h2).below hb⟩
theorem Ms.fo (h : Ms w r S LL) (hf : Fo q w w') (hd : ∀ b, r b → ¬ q b) : Ms w' r S LL := ⟨h.len, fun i s L h1 h2 => (h.at_ i s L h1 h2).fo hf hd⟩
theorem Ms.fot (h : Ms w r S LL) (hf : Fo q w w') (ht : Ty w q) : Ms w' r S LL := ⟨h.len, fun i s L h1 h2 => (((h.at_ i s L h1 h2).off ht).fo hf fun b hb => hb.2).imp fun b _ hb => hb.1⟩
theorem Mr.imp (h : Mr w r S LL) (hi : ∀ b, b < w.heap.size → r b → q b) : Mr w q S LL := ⟨h.len, fun i s L h1 h2 => (h.at_ i s L h1 h2).imp hi⟩
theorem Mr.below (h : Mr w r S LL) (hb : Below w.heap.size w w') : Mr w' r S LL := ⟨h.len, fun i s L h1 h2 => (h.at_ i s L h1 h2).belowP hb⟩
theorem Ms.nil (w : World) (r : Nat → Prop) : Ms w r [] [] := ⟨rfl, fun i s L h1 _ => by simp at h1⟩
theorem Ms.app {S' : List Sl} {LL' : List (List Int)} (h : Ms w r S LL) (h' : Ms w r S' LL') : Ms w r (S ++ S') (LL ++ LL') := by
  refine ⟨by rw [List.length_append, List.length_append, h.len, h'.len], fun i s L h1 h2 => ?_⟩
  by_cases hi : i < S.length
  · rw [List.getElem?_append_left hi] at h1
    rw [List.getElem?_append_left (by rw [← h.len]; exact hi)] at h2
    exact h.at_ i s L h1 h2
  · rw [List.getElem?_append_right (by omega)] at h1
    rw [List.getElem?_append_right (by rw [← h.len]; omega), ← h.len] at h2
    exact h'.at_ _ s L h1 h2
theorem Ms.one {s : Sl} {L : List Int} (h : Ow 47 w r (slv s) L.length (CU L)) : Ms w r [s] [L] := by
  refine ⟨rfl, fun i s' L' h1 h2 => ?_⟩
  match i with
  | 0 => simp at h1 h2; subst h1 h2; exact h
  | i + 1 => simp at h1
theorem Ms.drop (h : Ms w r S LL) (j : Nat) : Ms w r (S.drop j) (LL.drop j) :=
  ⟨by rw [List.length_drop, List.length_drop, h.len], fun i s L h1 h2 => by
    rw [List.getElem?_drop] at h1 h2
    exact h.at_ _ s L h1 h2⟩
theorem Ms.take (h : Ms w r S LL) (j : Nat) : Ms w r (S.take j) (LL.take j) :=
  ⟨by rw [List.length_take, List.length_take, h.len], fun i s L h1 h2 => by
    have hi : i < j := by
      by_cases hi : i < j
      · exact hi
      · rw [List.getElem?_eq_none (by rw [List.length_take]; omega)] at h1; cases h1
    rw [List.getElem?_take_of_lt hi] at h1 h2
    exact h.at_ _ s L h1 h2⟩
theorem Mr.drop (h : Mr w r S LL) (j : Nat) : Mr w r (S.drop j) (LL.drop j) :=
  ⟨by rw [List.length_drop, List.length_drop, h.len], fun i s L h1 h2 => by
    rw [List.getElem?_drop] at h1 h2
    exact h.at_ _ s L h1 h2⟩
theorem Mr.take (h : Mr w r S LL) (j : Nat) : Mr w r (S.take j) (LL.take j) :=
  ⟨by rw [List.length_take, List.length_take, h.len], fun i s L h1 h2 => by
    have hi : i < j := by
      by_cases hi : i < j
      · exact hi
      · rw [List.getElem?_eq_none (by rw [List.length_take]; omega)] at h1; cases h1
    rw [List.getElem?_take_of_lt hi] at h1 h2
    exact h.at_ _ s L h1 h2⟩
theorem Mr.n {i : Nat} {s : Sl} {L : List Int} (h : Mr w r S LL) (h1 : S[i]? = some s) (h2 : LL[i]? = some L) : s.2.1 = L.length := by
  obtain ⟨A, c, e⟩ := (h.at_ i s L h1 h2).form
  unfold slv at e
  injection e
theorem Mr.len2 (h : Mr w r S LL) : (CS S).length = LL.length := by rw [CS_len]; exact h.len
/-- One message, and its slice. -/
theorem Mr.get (h : Mr w r S LL) {i : Nat} (hi : i < LL.length) : ∃ (A : Option Addr) (c : Nat) (L : List Int), S[i]? = some (A, L.length, c) ∧ LL[i]? = some L ∧ Sq w r (.slice A L.length c) L.length (CU L) := by
  have h1 : i < S.length := by rw [h.len]; exact hi
  have e1 := List.getElem?_eq_getElem h1
  have e2 := List.getElem?_eq_getElem hi
  have hn := h.n e1 e2
  have hs := h.at_ i _ _ e1 e2
  obtain ⟨⟨A, m, c⟩, hsx⟩ : ∃ s, S[i] = s := ⟨_, rfl⟩
  rw [hsx] at e1 hn hs
  simp only at hn
  subst hn
  exact ⟨A, c, _, e1, e2, hs⟩
end
theorem Ty.keep {w w' : World} {p : Nat → Prop} (h : Ty w p) (hk : ∀ b, b < w.heap.size → p b → w'.heap[b]? = w.heap[b]?) (hl : ∀ b, p b → b < w.heap.size) : Ty w' p := fun b hb _ => by
  obtain ⟨c, t, fr, h1, h2⟩ := h b hb (hl b hb)
  exact ⟨c, t, fr, (hk b (hl b hb) hb).trans h1, h2⟩
theorem sl_at {w : World} {P : Nat → Prop} {A : Option Addr} {m c : Nat} {S : List Sl} (h : Sq w P (.slice A m c) m (CS S)) {j : Nat} (hj : j < m) {s : Sl} (hs : S[j]? = some s) : ∃ b off : Nat, A = some ⟨b, off, none⟩ ∧ b < w.heap.size ∧ w.cell? ⟨b, off + j, none⟩ = some (slv s) := by
  obtain ⟨_, b, off, e, hb, _, hc⟩ := h.at_ (show 0 < m by omega)
  exact ⟨b, off, e, hb, hc j _ (CS_at hs)⟩
theorem one_mr {w : World} {P : Nat → Prop} {A : Option Addr} {m c : Nat} {K : List Int} (h : Sq w P (.slice A m c) K.length (CU K)) : Mr w P [(A, m, c)] [K] := by
  refine ⟨rfl, fun i s L h1 h2 => ?_⟩
  match i with
  | 0 => simp at h1 h2; subst h1 h2; exact h
  | i + 1 => simp at h1
theorem own_first {P : Nat → Prop} {v : Value} {S : List Sl} {w : World} (h : Ow 33 w P v S.length (CS S)) (hk : 1 ≤ S.length) (hL : S.length ≤ 900) :
    Calls Try.prog 35 #[v, .int .i64 0, .int .i64 1] w fun e w' => ∃ v', e = .returned v' ∧ Ow 33 w' P v' (S.drop 1).length (CS (S.drop 1)) ∧ Fo (fun b => v.ownBlock = some b) w w' ∧ (∀ b, v'.ownBlock = some b → v.ownBlock = some b) := by
  rcases h.form with ⟨_, h0, _⟩ | ⟨b, cap, cur, hv, hp, hb, _⟩
  · omega
  · have hR : RowV w v b S := ⟨h.own, fun k hk => by rw [hv] at hk; injection hk with hk; exact hk.symm⟩
    have := delete_any v b 0 1 S w hR (by omega) hk (by omega)
    refine this.mono ?_
    rintro e w' ⟨v', rfl, r, p⟩
    have hb2 : v.ownBlock = some b := by rw [hv]; rfl
    rw [List.take_zero, List.nil_append] at r
    refine ⟨v', rfl, ⟨r.own, fun j hj => ?_⟩, Fo.of_past p hb2, fun j hj => ?_⟩
    · rw [r.at_ j hj]
      exact ⟨hp, Nat.lt_of_lt_of_le hb p.size⟩
    · rw [r.at_ j hj]; exact hb2
end Go.Proofs.Ytkbjonblflhkoaa.Q
