/-
  Names. Each statement bears its own conditions.
-/
import Derived.Test.YtchlgihanogeeaaE0
import Derived.Laws.OwnMore
namespace Go.Proofs.Ytchlgihanogeeaa
open Go.RowKit
set_option linter.unusedVariables false
set_option linter.unusedSimpArgs false
theorem str_eqn (a b : ByteArray) : (a.toList == b.toList) = decide (a = b) := by
  rw [Bool.eq_iff_iff]; simp [ba_inj]
theorem str_info : (Try.prog.info? 9).map (fun i => (i.zero, i.size, i.bytes)) = some (some (.string ⟨#[]⟩), 1, 16) := by kernel_rfl
theorem info_of {e : TypeId} {z : Value} {s b : Nat} (h : (Try.prog.info? e).map (fun i => (i.zero, i.size, i.bytes)) = some (some z, s, b)) : ∃ i, Try.prog.info? e = some i ∧ i.zero = some z ∧ i.size = s ∧ i.bytes = b := by
  cases hq : Try.prog.info? e with
  | none => rw [hq] at h; cases h
  | some i =>
    rw [hq] at h
    simp only [Option.map_some, Option.some.injEq, Prod.mk.injEq] at h
    exact ⟨i, rfl, h.1, h.2.1, h.2.2⟩
/-- A text as an element. -/
def RStr (s : ByteArray) (cs : List Value) : Prop := cs = [.string s]
theorem own_row {w : World} {base e n : Nat} {v : Value} {L : List ByteArray} (h : w.ownsRow base e 1 v n (L.map Value.string)) (hn : n ≤ rowMax) : Row w 1 RStr v L := by
  have hl : L.length = n := by have := h.1; simpa using this
  rcases h.2 with ⟨rfl, h0⟩ | ⟨g, cap, cur, rfl, _, hg, h1, h2, h3, h4⟩
  · have : L = [] := List.eq_nil_of_length_eq_zero (by omega)
    subst this
    exact Row.nil _ _ _
  · refine ⟨_, cap, by rw [hl], by omega, fun hp => ⟨g, 0, rfl, ?_, fun i x hx => ⟨[.string x], rfl, rfl, fun j u hu => ?_⟩⟩⟩
    · by_cases hlt : g < w.heap.size
      · exact hlt
      · rw [Array.getElem?_eq_none (by omega)] at hg; cases hg
    · have hj : j = 0 := by have := (List.getElem?_eq_some_iff.1 hu).1; simpa using this
      subst hj
      injection hu with hu
      subst hu
      have hi : i < L.length := (List.getElem?_eq_some_iff.1 hx).1
      rw [show (0 + i * 1 + 0) = i by omega, (row_cell hg i).1, ← Array.getElem?_toList]
      have h5 : (L.map Value.string)[i]? = some (.string x) := by rw [List.getElem?_map, hx]; rfl
      rw [← h4, List.getElem?_take_of_lt (by omega)] at h5
      exact h5
theorem take_snoc_str {α : Type} (f : α → ByteArray) {xs : List α} {k : Nat} {x : α} (h : xs[k]? = some x) : ((xs.take (k + 1)).map f).map Value.string = ((xs.take k).map f).map Value.string ++ [Value.string (f x)] := by
  rw [List.take_add_one, h]; simp
structure NmsRel {α : Type} (f : α → ByteArray) (n : Nat) (xs : List α) (w : World) (v5 v : Value) (wr : World) : Prop where
  ex : ∃ (k : Nat) (A : Option Addr) (c : Nat), k ≤ n ∧ v5 = .slice A k c ∧ v = .int .i64 (k : Int) ∧ wr.ownsRow w.heap.size 9 1 (.slice A k c) k (((xs.take k).map f).map Value.string) ∧ Below w.heap.size w wr
theorem own_form {w : World} {base e size : Nat} {v : Value} {n : Nat} {xs : List Value} (h : w.ownsRow base e size v n xs) : ∃ A c, v = .slice A n c := by
  rcases h.2 with ⟨rfl, rfl⟩ | ⟨g, cap, cur, hv, _⟩
  · exact ⟨_, _, rfl⟩
  · exact ⟨_, _, hv⟩
/-- Which place a text has first. -/
def FI (L : List ByteArray) (s : ByteArray) (r : Int) : Prop := (r = -1 ∧ ∀ i : Nat, L[i]? ≠ some s) ∨ ∃ i : Nat, r = (i : Int) ∧ L[i]? = some s ∧ ∀ j, j < i → L[j]? ≠ some s
theorem FI.unique {L : List ByteArray} {s : ByteArray} {r r' : Int} (h : FI L s r) (h' : FI L s r') : r = r' := by
  rcases h with ⟨h1, h2⟩ | ⟨i, h1, h2, h3⟩ <;> rcases h' with ⟨g1, g2⟩ | ⟨j, g1, g2, g3⟩
  · omega
  · exact absurd g2 (h2 j)
  · exact absurd h2 (g2 i)
  · have : i = j := by
      rcases Nat.lt_trichotomy i j with h | h | h
      · exact absurd h2 (g3 i h)
      · exact h
      · exact absurd g2 (h3 j h)
    omega
structure IdxRel (n : Nat) (L : List ByteArray) (s : ByteArray) (w : World) (v : Value) (wr : World) : Prop where
  ex : ∃ k : Nat, k ≤ n ∧ v = .int .i64 (k : Int) ∧ (∀ j : Nat, j < k → L[j]? ≠ some s) ∧ wr = w
set_option maxRecDepth 100000 in
set_option maxHeartbeats 4000000 in
theorem index_any (v : Value) (L : List ByteArray) (s : ByteArray) (w : World) (h : Row w 1 RStr v L) :
    Calls Try.prog 65 #[v, .string s] w fun e w' => (∃ r, e = .returned (.int .i64 r) ∧ FI L s r) ∧ w' = w := by
  obtain ⟨a, cap, rfl, hm⟩ := h.form
  obtain ⟨n, hn⟩ : ∃ n, L.length = n := ⟨_, rfl⟩
  rw [hn] at h hm ⊢
  have HN := Lib.hid hn
  have H := Lib.hid h
  unfold rowMax at hm
  clear hn h
  go_enter Try.func65, Try.ntmps65
  go_wp2_with fail
  go_loopw [8] (fun v wr => IdxRel n L s w v wr) (fun v => fun _ => n - (intOf v).toNat)
  case atStart => exact ⟨⟨0, Nat.zero_le _, rfl, fun j h => by omega, rfl⟩⟩
  case round =>
    obtain ⟨⟨k, hk, rfl, hno, hwr⟩⟩ := hrel
    subst hwr
    have HK := Lib.hid hk
    have HNO := Lib.hid hno
    clear hk hno
    by_cases hlt : k < n
    · have hkI : (k : Int) < (n : Int) := by omega
      have HX : Hid (k < n) := hlt
      obtain ⟨hnx, b, off, x, cs, rfl, hbl, hx, hR, _, hc⟩ := H.out.at_ k hlt
      clear hnx hbl
      have HXS := Lib.hid hx
      subst hR
      have d0 : wr.cell? ⟨b, off + k, none⟩ = some (.string x) := by simpa using hc 0 _ rfl
      clear hc hx hlt
      by_cases he : x = s
      · subst he
        have hb : (x.toList == x.toList) = true := by simp
        go_wp2_with fail
        go_ret
        exact ⟨⟨_, rfl, .inr ⟨k, rfl, HXS.out, HNO.out⟩⟩, rfl⟩
      · have hb : (s.toList == x.toList) = false := by rw [str_eqn]; exact decide_eq_false (fun h => he h.symm)
        have HE := Lib.hid he
        clear he
        go_wp2_with fail
        go_roundw
        case rel =>
          have Q : IdxRel n L s wr (.int .i64 ((k : Int) + 1)) wr := ⟨⟨k + 1, HX.out, by go_num, fun j hj => by
            by_cases e : j = k
            · subst e
              rw [HXS.out]; intro h; injection h with h; exact HE.out h
            · exact HNO.out j (by omega), rfl⟩⟩
          first | exact Q | ((repeat apply Exists.intro); exact ⟨Q, rfl⟩)
        case measure => have := HX.out; simp [intOf]; omega
    · have hkI : ¬ (k : Int) < (n : Int) := by omega
      have HF : Hid (FI L s (-1)) := .inl ⟨rfl, fun i h => HNO.out i (by have := (List.getElem?_eq_some_iff.1 h).1; have := HN.out; have := HK.out; omega) h⟩
      go_wp2_with fail
      go_ret
      exact ⟨⟨_, rfl, HF.out⟩, rfl⟩
end Go.Proofs.Ytchlgihanogeeaa
