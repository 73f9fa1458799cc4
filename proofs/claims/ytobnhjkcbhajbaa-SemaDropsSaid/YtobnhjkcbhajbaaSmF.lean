/-
  Who waits stays in order; a list of the law's own. Each statement bears its own conditions.
-/
import Derived.Test.YtobnhjkcbhajbaaSmE
namespace Go.Proofs.Ytobnhjkcbhajbaa.S
open Go.RowKit Go.Proofs.Ytobnhjkcbhajbaa.W
set_option linter.unusedVariables false
set_option linter.unusedSimpArgs false
def IsRow (k : IntKind) (w : World) (a : Option Addr) (len cap : Nat) (zs : List Int) : Prop :=
  (a = none ∧ len = 0 ∧ cap = 0 ∧ zs = []) ∨
  ∃ x, a = some x ∧ len ≤ cap ∧ cap ≤ maxLen ∧ zs.length = cap ∧ (∀ i, i < zs.length → w.cell? (x.add i) = some (.int k (zs.getD i 0))) ∧ ∀ n ∈ zs, (Lit.int k n).wf = true
theorem row_at {k : IntKind} {w : World} {a : Option Addr} {len cap : Nat} {zs : List Int} (h : IsRow k w a len cap zs) (hn : 0 < len) : ∃ b off, a = some ⟨b, off, none⟩ ∧ ∀ i, i < len → w.cell? ⟨b, off + i, none⟩ = some (.int k (zs.getD i 0)) ∧ (Lit.int k (zs.getD i 0)).wf = true := by
  rcases h with ⟨rfl, rfl, rfl, rfl⟩ | ⟨⟨b, off, spot⟩, rfl, h1, h2, h3, h4, h5⟩
  · omega
  · have e0 := h4 0 (by omega)
    have hs : spot = none := by simpa [Addr.add] using World.cell?_spot e0
    subst hs
    refine ⟨b, off, rfl, fun i hi => ⟨?_, ?_⟩⟩
    · have := h4 i (by omega)
      rwa [Addr.add_lit] at this
    · apply h5
      rw [List.getD_eq_getElem?_getD, List.getElem?_eq_getElem (by omega)]
      exact List.getElem_mem _
theorem cnt_cons (x : Int × Int) (r : List (Int × Int)) (q : Int) : cnt (x :: r) q = cnt r q + if q ≤ x.2 then 1 else 0 := by
  unfold cnt
  rw [List.countP_cons]
  simp
theorem cnt_split {L : List (Int × Int)} (h : Srt L) (q : Int) : (∀ x ∈ L.take (cnt L q), q ≤ x.2) ∧ (∀ x ∈ L.drop (cnt L q), x.2 < q) := by
  induction L with
  | nil => exact ⟨fun x hx => by simp at hx, fun x hx => by simp at hx⟩
  | cons y r ih =>
    have hp := List.pairwise_cons.1 h
    obtain ⟨i1, i2⟩ := ih hp.2
    rw [cnt_cons]
    by_cases hq : q ≤ y.2
    · rw [if_pos hq]
      refine ⟨fun x hx => ?_, fun x hx => ?_⟩
      · rw [List.take_succ_cons] at hx
        rcases List.mem_cons.1 hx with rfl | hx
        · exact hq
        · exact i1 x hx
      · rw [List.drop_succ_cons] at hx
        exact i2 x hx
    · rw [if_neg hq]
      have h0 : cnt r q = 0 := by
        unfold cnt
        rw [List.countP_eq_zero]
        intro z hz
        have := hp.1 z hz
        rw [decide_eq_true_iff]
        omega
      rw [h0]
      refine ⟨fun x hx => by simp at hx, fun x hx => ?_⟩
      rcases List.mem_cons.1 hx with rfl | hx
      · omega
      · have := hp.1 x hx; omega
theorem srt_join {L : List (Int × Int)} (h : Srt L) (id q : Int) : Srt (joinP L id q) := by
  obtain ⟨h1, h2⟩ := cnt_split h q
  unfold joinP Srt
  rw [List.pairwise_append]
  refine ⟨List.Pairwise.sublist (List.take_sublist _ _) h, ?_, ?_⟩
  · rw [List.pairwise_cons]
    exact ⟨fun y hy => Int.le_of_lt (h2 y hy), List.Pairwise.sublist (List.drop_sublist _ _) h⟩
  · intro x hx y hy
    rcases List.mem_cons.1 hy with rfl | hy
    · exact h1 x hx
    · have := h1 x hx; have := h2 y hy; omega
theorem srt_cut {L : List (Int × Int)} (h : Srt L) (k : Nat) : Srt (L.take k ++ L.drop (k + 1)) := by
  refine List.Pairwise.sublist ?_ h
  conv => rhs; rw [← List.take_append_drop k L]
  exact List.Sublist.append (List.Sublist.refl _) (by rw [← List.drop_drop]; exact List.drop_sublist _ _)
theorem mem_join {L : List (Int × Int)} {id q : Int} {x : Int × Int} (h : x ∈ joinP L id q) : x ∈ L ∨ x = (id, q) := by
  unfold joinP at h
  rcases List.mem_append.1 h with h | h
  · exact .inl (List.mem_of_mem_take h)
  · rcases List.mem_cons.1 h with h | h
    · exact .inr h
    · exact .inl (List.mem_of_mem_drop h)
theorem wait_join (lo g rb : Nat) (c m : Int) (p : Bool) (L : List (Int × Int)) (id pr : Int) (w : World) (h : SV lo w g rb ⟨c, m, p⟩ L) (hL : L.length ≤ 900) (hx : id ∉ idsP L) (hc : ¬ 0 < c) (hs : Srt L) :
    Calls Try.prog 13 #[.pointer (some ⟨g, 0, none⟩), .int .i64 id, .int .i64 pr] w fun e w' => e = .returned (.bool false) ∧ ∃ rb', SV lo w' g rb' ⟨c, m, p⟩ (joinP L id (wq p pr)) ∧ Nx g rb rb' w w' := by
  cases p with
  | true => exact wait_join_true lo g rb c m L id pr w h hL hx hc hs
  | false => exact wait_join_false lo g rb c m L id pr w h hL hx hc hs
/-- A list of the law's own, apart from a semaphore. -/
def LW (lo : Nat) (w : World) (g rb : Nat) (v : Value) (lb : Nat) (l : List Int) : Prop := I.RowV w v lb l ∧ (v = .slice none 0 0 ∨ (lo ≤ lb ∧ lb < w.heap.size ∧ lb ≠ g ∧ lb ≠ rb))
theorem LW.nx {lo : Nat} {w w' : World} {g rb rb' : Nat} {v : Value} {lb : Nat} {l : List Int} (h : LW lo w g rb v lb l) (n : Nx g rb rb' w w') : LW lo w' g rb' v lb l := by
  rcases h.2 with h2 | ⟨h2, h3, h4, h5⟩
  · exact ⟨h.1.keep (.inl h2), .inl h2⟩
  · refine ⟨h.1.keep (.inr (n.ch.block lb h3 h4 h5)), .inr ⟨h2, Nat.lt_of_lt_of_le h3 n.ch.size, h4, ?_⟩⟩
    have := n.rb
    omega
theorem LW.below {lo : Nat} {w w' : World} {g rb : Nat} {v : Value} {lb : Nat} {l : List Int} (h : LW lo w g rb v lb l) (b : Below w.heap.size w w') : LW lo w' g rb v lb l := h.nx (Nx.of_below b)
theorem cell_low {lo : Nat} {w w' : World} {b o : Nat} {u : Value} (h : Below lo w w') (hb : b < lo) (hc : w.cell? ⟨b, o, none⟩ = some u) : w'.cell? ⟨b, o, none⟩ = some u := (h.cell (by exact hb)).trans hc
end Go.Proofs.Ytobnhjkcbhajbaa.S
