/-
  A map that tells of each id of a list its tick. Each statement bears its own conditions.
-/
import Derived.Test.YtnobfmdjnldfpaaDrops
import Derived.Test.YtnobfmdjnldfpaaRef
import Derived.Maps.OwnSet
namespace Go.Proofs.Ytnobfmdjnldfpaa
open Go.RowKit Go.Maps Go.WideShapes
set_option linter.unusedVariables false
set_option linter.unusedSimpArgs false
def K (x : Int) : Lit := .int .i64 x
theorem K_key (x : Int) : WideAt.IsKeyLit (K x) := by simp [K, WideAt.IsKeyLit]
theorem K_ne {x y : Int} (h : x ≠ y) : K x ≠ K y := by simp [K, h]
abbrev DT := DataW Unit
def V (x : Int) : DT := .lit (.int .i64 x)
theorem V_inj {x y : Int} (h : V x = V y) : x = y := by simpa [V] using h
/-- The map tells of each id of the list its tick, and of no other one. -/
structure MM (D : DT) (L : List (Int × Int)) : Prop where
  size : Maps.size D = L.length
  at_ : ∀ x ∈ L, Maps.has D (K x.1) = true ∧ D.atKey (K x.1) (V 0) = V x.2
  out : ∀ id, (∀ x ∈ L, x.1 ≠ id) → Maps.has D (K id) = false
theorem MM.nil : MM (.map []) [] := ⟨rfl, by simp, fun _ _ => rfl⟩
theorem del_mem {L : List (Int × Int)} (h : Dst L) {id : Int} {x : Int × Int} : x ∈ del L id ↔ x ∈ L ∧ x.1 ≠ id := by
  rw [del_filter h]; simp
theorem del_count {L : List (Int × Int)} (h : Dst L) (id : Int) : (del L id).length + (if (∃ x ∈ L, x.1 = id) then 1 else 0) = L.length := by
  induction L with
  | nil => simp [del_filter h]
  | cons y L ih =>
    have h' : Dst L := List.Nodup.sublist ((List.sublist_cons_self y L).map _) h
    have ih := ih h'
    rw [del_filter h] 
    rw [del_filter h'] at ih
    have hn : ∀ x ∈ L, x.1 ≠ y.1 := fun x hx e => (List.nodup_cons.1 h).1 (by rw [← e]; exact List.mem_map_of_mem hx)
    by_cases hy : y.1 = id
    · subst hy
      have : ¬ ∃ x ∈ L, x.1 = y.1 := fun ⟨x, hx, e⟩ => hn x hx e
      rw [if_neg this] at ih
      simp at *
      omega
    · by_cases he : ∃ x ∈ L, x.1 = id
      · rw [if_pos he] at ih
        have : ∃ x ∈ y :: L, x.1 = id := by obtain ⟨x, hx, e⟩ := he; exact ⟨x, List.mem_cons_of_mem _ hx, e⟩
        rw [if_pos this, List.filter_cons_of_pos (by simp [hy])]
        simp at *
        omega
      · rw [if_neg he] at ih
        have : ¬ ∃ x ∈ y :: L, x.1 = id := by
          rintro ⟨x, hx, e⟩
          rcases List.mem_cons.1 hx with rfl | hx
          · exact hy e
          · exact he ⟨x, hx, e⟩
        rw [if_neg this, List.filter_cons_of_pos (by simp [hy])]
        simp at *
        omega
theorem MM.has_iff {D : DT} {L : List (Int × Int)} (h : MM D L) (id : Int) : Maps.has D (K id) = decide (∃ x ∈ L, x.1 = id) := by
  by_cases he : ∃ x ∈ L, x.1 = id
  · rw [decide_eq_true he]
    obtain ⟨x, hx, rfl⟩ := he
    exact (h.at_ x hx).1
  · rw [decide_eq_false he]
    exact h.out id fun x hx e => he ⟨x, hx, e⟩
theorem MM.set {D : DT} {L : List (Int × Int)} (h : MM D L) (ht : Tidy D) (hd : Dst L) (id a : Int) : MM (D.put (K id) (V a)) (setL L id a) := by
  have hp := setL_perm L id a
  have hm : ∀ x, x ∈ setL L id a ↔ x = (id, a) ∨ (x ∈ L ∧ x.1 ≠ id) := fun x => by rw [hp.mem_iff, List.mem_cons, del_mem hd]
  refine ⟨?_, fun x hx => ?_, fun i hi => ?_⟩
  · have hc := del_count hd id
    rw [size_put ht, hp.length_eq, List.length_cons, h.has_iff, h.size]
    by_cases he : ∃ x ∈ L, x.1 = id
    · rw [decide_eq_true he]; rw [if_pos he] at hc; simp; omega
    · rw [decide_eq_false he]; rw [if_neg he] at hc; simp; omega
  · rcases (hm x).1 hx with rfl | ⟨h1, h2⟩
    · exact ⟨has_put_same ht.isMap (K_key _) _, atKey_put_same ht.isMap (K_key _) _ _⟩
    · rw [has_put_other (K_ne h2), atKey_put_other (K_ne h2)]
      exact h.at_ x h1
  · have h1 : i ≠ id := fun e => hi (id, a) ((hm _).2 (.inl rfl)) e.symm
    rw [has_put_other (K_ne h1)]
    exact h.out i fun x hx e => hi x ((hm x).2 (.inr ⟨hx, by rw [e]; exact h1⟩)) e
theorem MM.pop {D : DT} {x : Int × Int} {L : List (Int × Int)} (h : MM D (x :: L)) (ht : Tidy D) (hd : Dst (x :: L)) : MM (D.del (K x.1)) L := by
  have hn : ∀ y ∈ L, y.1 ≠ x.1 := fun y hy e => (List.nodup_cons.1 hd).1 (by rw [← e]; exact List.mem_map_of_mem hy)
  have hx := (h.at_ x List.mem_cons_self).1
  refine ⟨?_, fun y hy => ?_, fun i hi => ?_⟩
  · have := size_del (k := K x.1) ht
    rw [hx, if_pos rfl, h.size, List.length_cons] at this
    omega
  · rw [has_del_other (K_ne (hn y hy)), atKey_del_other (K_ne (hn y hy))]
    exact h.at_ y (List.mem_cons_of_mem _ hy)
  · by_cases hi1 : i = x.1
    · rw [hi1]; exact has_del_same
    · rw [has_del_other (K_ne hi1)]
      refine h.out i fun y hy e => ?_
      rcases List.mem_cons.1 hy with rfl | hy
      · exact hi1 e.symm
      · exact hi y hy e
theorem om_keep {w w' : World} {mb n : Nat} {D : DT} (h : w.ownsMap Try.prog 3 (plainElem Try.prog 3) mb n D) (hb : w'.heap[mb]? = w.heap[mb]?) : w'.ownsMap Try.prog 3 (plainElem Try.prog 3) mb n D := by
  obtain ⟨es, cl, h1, h2⟩ := h
  exact ⟨es, cl, hb.trans h1, h2⟩
theorem law3 : Keyed Try.prog 3 := int_keyed Try.underlying3
theorem zero3 (w : World) : (zeroValue 3).run Try.prog w = .ok (.int .i64 0) w := by kernel_rfl
/-- All ticks from 0 to 255. -/
def B255 (L : List (Int × Int)) : Prop := ∀ x ∈ L, 0 ≤ x.2 ∧ x.2 ≤ 255
theorem setL_b255 {L : List (Int × Int)} (h : B255 L) {id a : Int} (h0 : 0 ≤ a) (h1 : a ≤ 255) : B255 (setL L id a) := by
  intro x hx
  rcases List.mem_cons.1 ((setL_perm L id a).mem_iff.1 hx) with rfl | hx
  · exact ⟨h0, h1⟩
  · exact h x ((del_sub L id).subset hx)
/-- Up to B all is as it was, but for the block mb. -/
structure Ko (B mb : Nat) (w w' : World) : Prop where
  os : w'.os = w.os
  tape : w'.tape = w.tape
  output : w'.output = w.output
  size : w.heap.size ≤ w'.heap.size
  block : ∀ k, k < B → k ≠ mb → w'.heap[k]? = w.heap[k]?
theorem Ko.refl (B mb : Nat) (w : World) : Ko B mb w w := ⟨rfl, rfl, rfl, Nat.le_refl _, fun _ _ _ => rfl⟩
theorem Ko.trans {B mb : Nat} {a b c : World} (h : Ko B mb a b) (k : Ko B mb b c) : Ko B mb a c :=
  ⟨k.os.trans h.os, k.tape.trans h.tape, k.output.trans h.output, Nat.le_trans h.size k.size, fun i hi hm => (k.block i hi hm).trans (h.block i hi hm)⟩
theorem Ko.grown {B mb : Nat} {w w' : World} {row : Option Nat} (h : w.grownBy w' row) (hB : B ≤ w.heap.size) (hr : ∀ q, row = some q → q = mb ∨ B ≤ q) : Ko B mb w w' :=
  ⟨h.os, h.tape, h.output, h.size, fun k hk hm => h.block k (by omega) (fun e => by rcases hr k e.symm with h | h <;> omega)⟩
theorem Ko.of_below {B mb : Nat} {w w' : World} (h : Below w.heap.size w w') (hB : B ≤ w.heap.size) : Ko B mb w w' := ⟨h.os, h.tape, h.output, h.size, fun k hk _ => h.block k (by omega)⟩
theorem Ko.below {B C mb : Nat} {w w' : World} (h : Ko B mb w w') (hC : C ≤ mb) (hB : C ≤ B) (hw : C ≤ w.heap.size) : Below C w w' := ⟨h.os, h.tape, h.output, h.size, fun k hk => h.block k (by omega) (by omega)⟩
theorem Ko.tf {B mb g rb : Nat} {w w' : World} {L : List (Int × Int)} (h : Ko B mb w w') (t : TF w g rb L) (h1 : g < B) (h2 : g ≠ mb) (h3 : rb < B) (h4 : rb ≠ mb) : TF w' g rb L := t.keep h.size (h.block g h1 h2) (h.block rb h3 h4)
theorem drop_cons {L : List (Int × Int)} {i : Nat} (h : i < L.length) : L.drop i = L.getD i (0, 0) :: L.drop (i + 1) := by
  rw [List.drop_eq_getElem_cons h]; simp [List.getD_eq_getElem?_getD, List.getElem?_eq_getElem h]
end Go.Proofs.Ytnobfmdjnldfpaa
