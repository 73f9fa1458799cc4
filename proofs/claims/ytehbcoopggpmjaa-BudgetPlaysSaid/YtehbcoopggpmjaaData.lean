/-
  Lists of elements of several cells, read in memory. Each statement bears its own conditions.
-/
import Derived.Test.YtehbcoopggpmjaaBase
import Derived.Deep.Slices
import Derived.ChangeSlices
import Derived.ChangeArms
import Derived.ProofKit
import Derived.OpenShut
import Derived.ChangeOld
import Derived.SizedLaws
namespace Go.Proofs.Ytehbcoopggpmjaa
open Go.RowKit Go.ChangeShapes Go.WideShapes Go.ChangeAt
set_option linter.unusedVariables false
set_option linter.unusedSimpArgs false
/-- No list that is read is longer. -/
def rowMax : Nat := 8796093021952
/-- A list of elements of k cells each, as a slice value reads in memory. -/
structure Row {α : Type} (w : World) (k : Nat) (R : α → List Value → Prop) (v : Value) (xs : List α) : Prop where
  ex : ∃ (a : Option Addr) (cap : Nat), v = .slice a xs.length cap ∧ xs.length ≤ rowMax ∧ (0 < xs.length → ∃ b off : Nat, a = some ⟨b, off, none⟩ ∧ b < w.heap.size ∧
    ∀ i x, xs[i]? = some x → ∃ cs, R x cs ∧ cs.length = k ∧ ∀ j u, cs[j]? = some u → w.cell? ⟨b, off + i * k + j, none⟩ = some u)
theorem Row.keep {α : Type} {w w' : World} {k : Nat} {R R' : α → List Value → Prop} {v : Value} {xs : List α} (h : Row w k R v xs) (hb : Below w.heap.size w w') (hR : ∀ x cs, R x cs → R' x cs) : Row w' k R' v xs := by
  obtain ⟨a, cap, e, hm, hc⟩ := h.ex
  refine ⟨a, cap, e, hm, fun hp => ?_⟩
  obtain ⟨b, off, e1, hlt, h1⟩ := hc hp
  refine ⟨b, off, e1, Nat.lt_of_lt_of_le hlt hb.size, fun i x hx => ?_⟩
  obtain ⟨cs, h2, h3, h4⟩ := h1 i x hx
  exact ⟨cs, hR x cs h2, h3, fun j u hu => cell_later hb (h4 j u hu)⟩
theorem Row.below {α : Type} {w w' : World} {k : Nat} {R : α → List Value → Prop} {v : Value} {xs : List α} (h : Row w k R v xs) (hb : Below w.heap.size w w') : Row w' k R v xs := h.keep hb fun _ _ h => h
theorem Row.alloc {α : Type} {w : World} {k : Nat} {R : α → List Value → Prop} {v : Value} {xs : List α} (h : Row w k R v xs) (o : Obj) : Row (w.alloc o) k R v xs := h.below ((Below.refl _ _).alloc (Nat.le_refl _) o)
theorem Row.nil {α : Type} (w : World) (k : Nat) (R : α → List Value → Prop) : Row w k R (.slice none 0 0) ([] : List α) := ⟨none, 0, rfl, by simp, fun h => by simp at h⟩
/-- One element's cells. -/
theorem Row.at_ {α : Type} {w : World} {k n cap : Nat} {a : Option Addr} {R : α → List Value → Prop} {xs : List α} (h : Row w k R (.slice a n cap) xs) (i : Nat) (hi : i < n) :
    n = xs.length ∧ ∃ (b off : Nat) (x : α) (cs : List Value), a = some ⟨b, off, none⟩ ∧ b < w.heap.size ∧ xs[i]? = some x ∧ R x cs ∧ cs.length = k ∧ ∀ j u, cs[j]? = some u → w.cell? ⟨b, off + i * k + j, none⟩ = some u := by
  obtain ⟨a', cap', e, hm, hc⟩ := h.ex
  injection e with e1 e2 e3
  subst e1 e2 e3
  obtain ⟨b, off, e1, hlt, h1⟩ := hc (by omega)
  obtain ⟨cs, h2, h3, h4⟩ := h1 i xs[i] (List.getElem?_eq_getElem hi)
  exact ⟨rfl, b, off, xs[i], cs, e1, hlt, List.getElem?_eq_getElem hi, h2, h3, h4⟩
theorem Row.form {α : Type} {w : World} {k : Nat} {R : α → List Value → Prop} {v : Value} {xs : List α} (h : Row w k R v xs) : ∃ a cap, v = .slice a xs.length cap ∧ xs.length ≤ rowMax := by
  obtain ⟨a, cap, e, hm, _⟩ := h.ex
  exact ⟨a, cap, e, hm⟩
theorem weights_all {H : Type} {P : Program} {e : TypeId} : ∀ {l : List (DataW H)} {i : Nat} {d : DataW H}, l[i]? = some d → ∀ n ∈ d.weights P e, n ∈ DataW.weightsAll P e l
  | [], i, d, h, n, hn => by simp at h
  | x :: l, 0, d, h, n, hn => by
    simp at h; subst h
    simp [DataW.weightsAll, hn]
  | x :: l, i + 1, d, h, n, hn => by
    have := weights_all (l := l) (i := i) (by simpa using h) n hn
    simp [DataW.weightsAll, this]
/-- What an argument that is a slice looks like in memory, opened. -/
theorem row_of {α H : Type} {enc : TypeId × Value → H} {P : Program} {W : World} {base : Nat} {held : Bool} {t e k : Nat} {fuel : Nat} {cs : List Value} {x : DataW H × List MemPlace} {R : α → List Value → Prop}
    (ht : P.underlying t = some (.slice e)) (hk : P.cellsOf e = k) (h0 : 0 < k) (hby : 16 ≤ P.bytesOf e) (hR : ∀ n cs y, cs.length = k → DataW.trod enc P W base (fun _ => true) held n e cs = some y → (∀ n ∈ y.1.weights P e, n ≤ reachBytes) → ∃ x, R x cs)
    (h : DataW.trod enc P W base (fun _ => true) held fuel t cs = some x) (hw : ∀ n ∈ x.1.weights P t, n ≤ reachBytes) : ∃ (v : Value) (xs : List α), cs = [v] ∧ Row W k R v xs := by
  rcases Go.Deep.open_slice ht h with ⟨hcs, _⟩ | ⟨y, l, c, m, n, D, Pl, hcs, _, hl, hm, hmm, hxx, hi⟩
  · exact ⟨_, [], hcs, Row.nil _ _ _⟩
  · simp only [if_true] at hmm
    subst hmm
    rw [hk] at hi
    have hd : x.1 = .slice ((List.range l).map D) ((List.range (m - l)).map fun j => D (l + j)) := by rw [hxx]
    rw [hd] at hw
    have hlm : l ≤ rowMax := by
      have h1 := hw ((((List.range l).map D).length + ((List.range (m - l)).map fun j => D (l + j)).length) * P.bytesOf e) (by simp [DataW.weights, ht])
      simp only [List.length_map, List.length_range] at h1
      have h2 : l * 16 ≤ (l + (m - l)) * P.bytesOf e := Nat.mul_le_mul (by omega) hby
      unfold reachBytes at h1
      unfold rowMax
      omega
    have each : ∀ i, i < l → ∃ q : α × List Value, R q.1 q.2 ∧ q.2.length = k ∧ W.cells? base (y.add (i * k)) k = some q.2 := by
      intro i hil
      obtain ⟨cs, hcc, ht'⟩ := hi i (by omega)
      obtain ⟨_, hlen, hat⟩ := World.cells?_some hcc
      obtain ⟨x, hx⟩ := hR n cs _ hlen ht' (fun z hz => hw z (by
        have := weights_all (P := P) (e := e) (l := (List.range l).map D) (i := i) (d := D i) (by simp [hil]) z hz
        simp [DataW.weights, ht, this]))
      exact ⟨(x, cs), hx, hlen, hcc⟩
    by_cases hl0 : l = 0
    · subst hl0
      exact ⟨_, [], hcs, some y, m, rfl, by simp, fun hp => by simp at hp⟩
    haveI : Inhabited (α × List Value) := ⟨Classical.choose (each 0 (by omega))⟩
    obtain ⟨q, hq⟩ := Go.Deep.choose_lt each
    have hlen : ((List.range l).map fun i => (q i).1).length = l := by simp
    refine ⟨_, (List.range l).map fun i => (q i).1, hcs, some y, m, by rw [hlen], by rw [hlen]; exact hlm, fun hp => ?_⟩
    rw [hlen] at hp
    obtain ⟨_, hl0, hat0⟩ := World.cells?_some (hq 0 hp).2.2
    have hc0 := hat0 0 h0
    rw [← hl0] at h0
    rw [List.getElem?_eq_getElem h0] at hc0
    obtain ⟨b, off, spot⟩ := y
    have hs : spot = none := by simpa [Addr.add] using World.cell?_spot hc0
    subst hs
    refine ⟨b, off, rfl, ?_, fun i x hx => ?_⟩
    · have := World.block_lt_of_cell? _ _ hc0
      simpa [block_of_add] using this
    · obtain ⟨h1, h2⟩ := List.getElem?_eq_some_iff.1 hx
      simp at h1 h2
      subst h2
      obtain ⟨g1, g2, g3⟩ := hq i h1
      obtain ⟨_, hl1, hat1⟩ := World.cells?_some g3
      refine ⟨_, g1, g2, fun j u hu => ?_⟩
      have hj : j < k := by rw [← g2]; exact (List.getElem?_eq_some_iff.1 hu).1
      have h3 := hat1 j hj
      rw [hu, add_of_add, Addr.add_lit] at h3
      rw [Nat.add_assoc]; exact h3
theorem all_true {α : Type} {f : α → Bool} {xs : List α} (h : ∀ (i : Nat) x, xs[i]? = some x → f x = true) : xs.all f = true := by
  rw [List.all_eq_true]
  intro x hx
  obtain ⟨i, hi, e⟩ := List.getElem_of_mem hx
  exact h i x (by rw [List.getElem?_eq_getElem hi, e])
theorem all_false {α : Type} {f : α → Bool} {xs : List α} {i : Nat} {x : α} (h : xs[i]? = some x) (hf : f x = false) : xs.all f = false := by
  rw [List.all_eq_false]
  exact ⟨x, List.mem_of_getElem? h, by simp [hf]⟩
end Go.Proofs.Ytehbcoopggpmjaa
