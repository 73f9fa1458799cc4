/-
  Tables of windows as plain things, and how they read in memory. Each statement bears its own conditions.
-/
import Derived.Test.YtcnhghnkocdjkaaData
import Derived.IntWalk
namespace Go.Proofs.Ytcnhghnkocdjkaa
open Go.RowKit Go.ChangeShapes Go.WideShapes Go.ChangeAt
set_option linter.unusedVariables false
set_option linter.unusedSimpArgs false
def I64 (n : Int) : Prop := -9223372036854775808 ≤ n ∧ n ≤ 9223372036854775807
theorem I64.of_wf {n : Int} (h : (Lit.int .i64 n).wf = true) : I64 n := by
  simp only [Lit.wf, Bool.and_eq_true, decide_eq_true_eq] at h
  exact h
theorem I64.wrap {n : Int} (h : I64 n) : IntKind.i64.wrap n = n := IntWalk.i64_in _ h
theorem wrap_ok {n : Int} (h : -9223372036854775808 ≤ n) (h' : n ≤ 9223372036854775807) : IntKind.i64.wrap n = n := IntWalk.i64_in _ ⟨h, h'⟩
theorem frlen2 {cs : List Value} (h : cs.length = 2) : ∃ u0 u1 : Value, cs = [u0, u1] := by
  match cs, h with
  | [u0, u1], _ => exact ⟨_, _, rfl⟩
theorem frlen3 {cs : List Value} (h : cs.length = 3) : ∃ u0 u1 u2 : Value, cs = [u0, u1, u2] := by
  match cs, h with
  | [u0, u1, u2], _ => exact ⟨_, _, _, rfl⟩
theorem frfield_of {H : Type} {enc : TypeId × Value → H} {P : Program} {W : World} {base : Nat} {held : Bool} {t : TypeId} {fs : Array Field} {fuel : Nat} {cs : List Value} {x : DataW H × List MemPlace} (ht : P.underlying t = some (.struct fs)) (h : DataW.trod enc P W base (fun _ => true) held fuel t cs = some x) (hw : ∀ n ∈ x.1.weights P t, n ≤ reachBytes) :
    ∃ n', ∀ (j : Nat) (F : Field), fs[j]? = some F → ∃ y, DataW.trod enc P W base (fun _ => true) held n' F.type ((cs.drop F.offset).take (P.cellsOf F.type)) = some y ∧ ∀ n ∈ y.1.weights P F.type, n ≤ reachBytes := by
  obtain ⟨ys, n', _, hy, _, hyl, hf⟩ := DataW.trod_struct ht h
  refine ⟨n', fun j F hF => ?_⟩
  have hj : j < fs.size := (Array.getElem?_eq_some_iff.1 hF).1
  refine ⟨ys[j]'(by omega), by rw [hf j F hF]; exact List.getElem?_eq_getElem (by omega), fun z hz => hw z ?_⟩
  rw [hy]
  simp only [DataW.weights, ht]
  refine DataW.weights_mem_each (ts := fs.toList.map (·.type)) (j := j) (t := F.type) (d := (ys[j]'(by omega)).1) ?_ ?_ z hz
  · rw [List.getElem?_map, Array.getElem?_toList, hF]; rfl
  · rw [List.getElem?_map, List.getElem?_eq_getElem (by omega)]; rfl
structure MW where
  who : Int
  frm : Int
  len : Int
def MW.cells (x : MW) : List Value := [.int .i64 x.who, .int .i64 x.frm, .int .i64 x.len]
def RW (x : MW) (cs : List Value) : Prop := cs = x.cells ∧ I64 x.who ∧ I64 x.frm ∧ I64 x.len
structure MT where
  fr : Int
  ws : List MW
def RT (w : World) (x : MT) (cs : List Value) : Prop := ∃ v : Value, cs = [.int .i64 x.fr, v] ∧ I64 x.fr ∧ Row w 3 RW v x.ws
theorem RT.below {w w' : World} {x : MT} {cs : List Value} (h : RT w x cs) (hB : Below w.heap.size w w') : RT w' x cs := by
  obtain ⟨v, e, hs, hq⟩ := h
  exact ⟨v, e, hs, hq.below hB⟩
/-- No slice value is longer than its room. -/
def CapOk (v : Value) : Prop := ∀ a n c, v = .slice a n c → n ≤ c
def RTc (w : World) (x : MT) (cs : List Value) : Prop := ∃ v : Value, cs = [.int .i64 x.fr, v] ∧ I64 x.fr ∧ Row w 3 RW v x.ws ∧ CapOk v
theorem RTc.rt {w : World} {x : MT} {cs : List Value} (h : RTc w x cs) : RT w x cs := by
  obtain ⟨v, e, hs, hq, _⟩ := h
  exact ⟨v, e, hs, hq⟩
theorem RTc.below {w w' : World} {x : MT} {cs : List Value} (h : RTc w x cs) (hB : Below w.heap.size w w') : RTc w' x cs := by
  obtain ⟨v, e, hs, hq, hc⟩ := h
  exact ⟨v, e, hs, hq.below hB, hc⟩
theorem cap_of {H : Type} {enc : TypeId × Value → H} {P : Program} {W : World} {base : Nat} {held : Bool} {t e : Nat} {fuel : Nat} {v : Value} {x : DataW H × List MemPlace}
    (ht : P.underlying t = some (.slice e)) (h : DataW.trod enc P W base (fun _ => true) held fuel t [v] = some x) : CapOk v := by
  intro a n c hv
  rcases Go.Deep.open_slice ht h with ⟨hcs, _⟩ | ⟨y, l, c', m, n', D, Pl, hcs, _, hl, hm, hmm, hxx, hi⟩
  · rw [hv] at hcs
    simp at hcs
    omega
  · rw [hv] at hcs
    simp at hcs
    omega
section
variable {H : Type} {enc : TypeId × Value → H} {W : World} {base : Nat} {held : Bool}
set_option maxHeartbeats 2000000 in
theorem open_W (n : Nat) (cs : List Value) (y : DataW H × List MemPlace) (hl : cs.length = 3) (h : DataW.trod enc Try.prog W base (fun _ => true) held n 40 cs = some y) (hw : ∀ n ∈ y.1.weights Try.prog 40, n ≤ reachBytes) : ∃ x : MW, RW x cs := by
  obtain ⟨n', hf⟩ := frfield_of Try.underlying40 h hw
  obtain ⟨u0, u1, u2, rfl⟩ := frlen3 hl
  obtain ⟨w0, g0, k0⟩ := hf 0 _ rfl
  replace g0 : DataW.trod enc Try.prog W base (fun _ => true) held n' 3 [u0] = some w0 := by simpa [show Try.prog.cellsOf 3 = 1 by kernel_rfl] using g0
  obtain ⟨z0, e0, _, f0⟩ := DataW.trod_int Try.underlying3 g0
  injection e0 with e0
  subst e0
  obtain ⟨w1, g1, k1⟩ := hf 1 _ rfl
  replace g1 : DataW.trod enc Try.prog W base (fun _ => true) held n' 3 [u1] = some w1 := by simpa [show Try.prog.cellsOf 3 = 1 by kernel_rfl] using g1
  obtain ⟨z1, e1, _, f1⟩ := DataW.trod_int Try.underlying3 g1
  injection e1 with e1
  subst e1
  obtain ⟨w2, g2, k2⟩ := hf 2 _ rfl
  replace g2 : DataW.trod enc Try.prog W base (fun _ => true) held n' 3 [u2] = some w2 := by simpa [show Try.prog.cellsOf 3 = 1 by kernel_rfl] using g2
  obtain ⟨z2, e2, _, f2⟩ := DataW.trod_int Try.underlying3 g2
  injection e2 with e2
  subst e2
  exact ⟨⟨z0, z1, z2⟩, rfl, I64.of_wf f0, I64.of_wf f1, I64.of_wf f2⟩
set_option maxHeartbeats 2000000 in
theorem open_T (n : Nat) (cs : List Value) (y : DataW H × List MemPlace) (hl : cs.length = 2) (h : DataW.trod enc Try.prog W base (fun _ => true) held n 24 cs = some y) (hw : ∀ n ∈ y.1.weights Try.prog 24, n ≤ reachBytes) : ∃ x : MT, RTc W x cs := by
  obtain ⟨n', hf⟩ := frfield_of Try.underlying24 h hw
  obtain ⟨u0, u1, rfl⟩ := frlen2 hl
  obtain ⟨w0, g0, k0⟩ := hf 0 _ rfl
  replace g0 : DataW.trod enc Try.prog W base (fun _ => true) held n' 3 [u0] = some w0 := by simpa [show Try.prog.cellsOf 3 = 1 by kernel_rfl] using g0
  obtain ⟨z0, e0, _, f0⟩ := DataW.trod_int Try.underlying3 g0
  injection e0 with e0
  subst e0
  obtain ⟨w1, g1, k1⟩ := hf 1 _ rfl
  replace g1 : DataW.trod enc Try.prog W base (fun _ => true) held n' 22 [u1] = some w1 := by simpa [show Try.prog.cellsOf 22 = 1 by kernel_rfl] using g1
  obtain ⟨v1, z1, e1, hr1⟩ := row_of (R := RW) (k := 3) Try.underlying22 (by kernel_rfl) (by decide) (of_decide_eq_true (by kernel_rfl)) (fun n cs y h1 h2 h3 => open_W n cs y h1 h2 h3) g1 k1
  injection e1 with e1
  subst e1
  exact ⟨⟨z0, z1⟩, _, rfl, I64.of_wf f0, hr1, cap_of Try.underlying22 g1⟩
end
/-- A window's numbers fit into a frame. -/
def fitsB (x : MW) (fr : Int) : Bool := decide (0 ≤ x.who) && decide (0 ≤ x.frm) && decide (1 ≤ x.len) && decide (x.len ≤ fr - x.frm)
def chkL (fr free : Int) : List MW → Int
  | [] => 0
  | x :: r => if fitsB x fr = false then 2 else if x.frm < free then 22 else chkL fr (x.frm + x.len) r
/-- The first error of a table. -/
def chk (fr : Int) (ws : List MW) : Int := if fr < 1 then 2 else if 1048576 < fr then 2 else if 64 < ws.length then 8 else chkL fr 0 ws
theorem fits_iff {x : MW} {fr : Int} : fitsB x fr = true ↔ 0 ≤ x.who ∧ 0 ≤ x.frm ∧ 1 ≤ x.len ∧ x.frm + x.len ≤ fr := by
  unfold fitsB
  simp only [Bool.and_eq_true, decide_eq_true_eq]
  omega
/-- The window round a tick, or one of nobody from the tick on. -/
def arndL (fr tick : Int) : List MW → MW
  | [] => ⟨-1, tick, fr - tick⟩
  | x :: r => if tick < x.frm then ⟨-1, tick, x.frm - tick⟩ else if tick < x.frm + x.len then x else arndL fr tick r
/-- Windows in order, from a tick on, within a frame. -/
inductive Ord (fr : Int) : Int → List MW → Prop
  | nil (a : Int) : Ord fr a []
  | cons {a : Int} {x : MW} {r : List MW} (h0 : 0 ≤ x.who) (h1 : a ≤ x.frm) (h2 : 1 ≤ x.len) (h3 : x.frm + x.len ≤ fr) (h : Ord fr (x.frm + x.len) r) : Ord fr a (x :: r)
theorem ord_of_chkL {fr : Int} : ∀ {ws : List MW} {free : Int}, chkL fr free ws = 0 → Ord fr free ws
  | [], free, _ => .nil _
  | x :: r, free, h => by
    unfold chkL at h
    by_cases h1 : fitsB x fr = false
    · rw [if_pos h1] at h; cases h
    · rw [if_neg h1] at h
      by_cases h2 : x.frm < free
      · rw [if_pos h2] at h; cases h
      · rw [if_neg h2] at h
        obtain ⟨a, b, c, d⟩ := fits_iff.1 (by simpa using h1)
        exact .cons a (by omega) c d (ord_of_chkL h)
theorem chkL_of_ord {fr : Int} {ws : List MW} {free : Int} (h0 : 0 ≤ free) (h : Ord fr free ws) : chkL fr free ws = 0 := by
  induction h with
  | nil a => rfl
  | cons a b c d h ih =>
    unfold chkL
    rw [if_neg (by rw [fits_iff.2 ⟨a, by omega, c, d⟩]; simp), if_neg (by omega)]
    exact ih (by omega)
theorem chk_zero {fr : Int} {ws : List MW} (h : chk fr ws = 0) : 1 ≤ fr ∧ fr ≤ 1048576 ∧ ws.length ≤ 64 ∧ Ord fr 0 ws := by
  unfold chk at h
  by_cases h1 : fr < 1
  · rw [if_pos h1] at h; cases h
  · rw [if_neg h1] at h
    by_cases h2 : 1048576 < fr
    · rw [if_pos h2] at h; cases h
    · rw [if_neg h2] at h
      by_cases h3 : 64 < ws.length
      · rw [if_pos h3] at h; cases h
      · rw [if_neg h3] at h
        exact ⟨by omega, by omega, by omega, ord_of_chkL h⟩
theorem chk_of {fr : Int} {ws : List MW} (h1 : 1 ≤ fr) (h2 : fr ≤ 1048576) (h3 : ws.length ≤ 64) (h : Ord fr 0 ws) : chk fr ws = 0 := by
  unfold chk
  rw [if_neg (by omega), if_neg (by omega), if_neg (by omega)]
  exact chkL_of_ord (by omega) h
theorem chkL_cases (fr : Int) : ∀ (ws : List MW) (free : Int), chkL fr free ws = 0 ∨ chkL fr free ws = 2 ∨ chkL fr free ws = 22
  | [], _ => .inl rfl
  | x :: r, free => by
    unfold chkL
    split
    · exact .inr (.inl rfl)
    · split
      · exact .inr (.inr rfl)
      · exact chkL_cases fr r _
/-- The place of the first window that a tick is in. -/
def winI (tick : Int) : List MW → Nat → Int
  | [], _ => -1
  | x :: r, k => if x.frm ≤ tick ∧ tick < x.frm + x.len then (k : Int) else winI tick r (k + 1)
/-- Where the first window behind a tick begins. -/
def nextF (fr tick : Int) : List MW → Int
  | [] => fr
  | x :: r => if tick < x.frm then x.frm else nextF fr tick r
theorem Ord.mem {fr : Int} : ∀ {ws : List MW} {a : Int}, Ord fr a ws → ∀ x ∈ ws, 0 ≤ x.who ∧ a ≤ x.frm ∧ 1 ≤ x.len ∧ x.frm + x.len ≤ fr
  | [], _, _, x, h => by simp at h
  | y :: r, a, .cons h0 h1 h2 h3 h, x, hx => by
    rcases List.mem_cons.1 hx with rfl | hx
    · exact ⟨h0, h1, h2, h3⟩
    · have := Ord.mem h x hx
      omega
theorem winI_none {fr tick : Int} : ∀ {ws : List MW} {a : Int} {k : Nat}, Ord fr a ws → tick < a → winI tick ws k = -1
  | [], _, _, _, _ => rfl
  | y :: r, a, k, .cons h0 h1 h2 h3 h, ht => by
    unfold winI
    rw [if_neg (by omega)]
    exact winI_none h (by omega)
/-- With windows in order, the first window behind a tick or round it is what both ways of looking find. -/
theorem arnd_cases {fr tick : Int} : ∀ {ws : List MW} {a : Int} {k : Nat}, Ord fr a ws →
    (winI tick ws k = -1 ∧ arndL fr tick ws = ⟨-1, tick, nextF fr tick ws - tick⟩ ∧ (tick < fr → tick < nextF fr tick ws ∧ nextF fr tick ws ≤ fr)) ∨
    (∃ i : Nat, winI tick ws k = ((k + i : Nat) : Int) ∧ ws[i]? = some (arndL fr tick ws) ∧ (arndL fr tick ws).frm ≤ tick ∧ tick < (arndL fr tick ws).frm + (arndL fr tick ws).len)
  | [], a, k, _ => .inl ⟨rfl, rfl, fun h => ⟨h, Int.le_refl _⟩⟩
  | y :: r, a, k, .cons h0 h1 h2 h3 h => by
    unfold winI arndL nextF
    by_cases ht : tick < y.frm
    · rw [if_neg (by omega), if_pos ht, if_pos ht, winI_none h (by omega)]
      exact .inl ⟨rfl, rfl, fun _ => ⟨ht, by omega⟩⟩
    · rw [if_neg ht, if_neg ht]
      by_cases ht2 : tick < y.frm + y.len
      · rw [if_pos ⟨by omega, ht2⟩, if_pos ht2]
        exact .inr ⟨0, rfl, rfl, by omega, ht2⟩
      · rw [if_neg (by omega), if_neg ht2]
        rcases arnd_cases (k := k + 1) h with ⟨a, b, c⟩ | ⟨i, a, b, c, d⟩
        · exact .inl ⟨a, b, c⟩
        · exact .inr ⟨i + 1, by rw [a]; congr 1; omega, by simpa using b, c, d⟩
def atW (fr tick : Int) (ws : List MW) : Int × Int :=
  if chk fr ws = 0 then if 0 ≤ tick then if tick < fr then ((arndL fr tick ws).who, (arndL fr tick ws).frm + (arndL fr tick ws).len - tick) else (-1, 0) else (-1, 0) else (-1, 0)
def ofL (fr who : Int) (ws : List MW) : List MW := if chk fr ws = 0 then ws.filter fun x => decide (x.who = who) else []
def sumL (ws : List MW) : Int := (ws.map MW.len).sum
theorem sumL_nil : sumL [] = 0 := rfl
theorem sumL_cons (x : MW) (ws : List MW) : sumL (x :: ws) = x.len + sumL ws := by simp [sumL]
theorem sumL_app (a b : List MW) : sumL (a ++ b) = sumL a + sumL b := by simp [sumL]
theorem Ord.sum {fr : Int} (p : MW → Bool) : ∀ {ws : List MW} {a : Int}, Ord fr a ws → a ≤ fr → 0 ≤ sumL (ws.filter p) ∧ a + sumL (ws.filter p) ≤ fr
  | [], a, _, h => by simpa [sumL] using h
  | y :: r, a, .cons h0 h1 h2 h3 h, _ => by
    have ih := Ord.sum p h h3
    cases hp : p y
    · rw [List.filter_cons_of_neg (by simp [hp])]; omega
    · rw [List.filter_cons_of_pos hp, sumL_cons]; omega
theorem sum_take_le {ws : List MW} (h : ∀ x ∈ ws, 1 ≤ x.len) (k : Nat) : 0 ≤ sumL (ws.take k) ∧ sumL (ws.take k) ≤ sumL ws := by
  induction ws generalizing k with
  | nil => simp [sumL]
  | cons x r ih =>
    have hx := h x (by simp)
    cases k with
    | zero =>
      have := ih (fun y hy => h y (by simp [hy])) r.length
      rw [List.take_of_length_le (Nat.le_refl _)] at this
      simp only [List.take_zero, sumL_nil, sumL_cons]; omega
    | succ k =>
      have := ih (fun y hy => h y (by simp [hy])) k
      simp only [List.take_succ_cons, sumL_cons]; omega
theorem flat_at {α : Type} {k : Nat} {f : α → List Value} (hf : ∀ x, (f x).length = k) : ∀ {xs : List α} {i : Nat} {x : α}, xs[i]? = some x → ∀ (j : Nat) u, (f x)[j]? = some u → (xs.flatMap f)[i * k + j]? = some u
  | [], i, x, h, j, u, hu => by simp at h
  | y :: r, 0, x, h, j, u, hu => by
    simp at h; subst h
    have hj : j < (f y).length := (List.getElem?_eq_some_iff.1 hu).1
    rw [List.flatMap_cons, Nat.zero_mul, Nat.zero_add, List.getElem?_append_left hj]; exact hu
  | y :: r, i + 1, x, h, j, u, hu => by
    have ih := flat_at hf (xs := r) (i := i) (x := x) (by simpa using h) j u hu
    rw [List.flatMap_cons, List.getElem?_append_right (by rw [hf, Nat.add_mul]; omega), hf, show (i + 1) * k + j - k = i * k + j by rw [Nat.add_mul]; omega]
    exact ih
theorem flat_len {α : Type} {k : Nat} {f : α → List Value} (hf : ∀ x, (f x).length = k) (xs : List α) : (xs.flatMap f).length = xs.length * k := by
  induction xs with
  | nil => simp
  | cons x r ih => rw [List.flatMap_cons, List.length_append, hf, ih, List.length_cons, Nat.add_mul]; omega
/-- A row that the call made reads as a list. -/
theorem own_rowK {α : Type} {w : World} {base e n k : Nat} {v : Value} {f : α → List Value} {R : α → List Value → Prop} {L : List α} (h0k : 0 < k) (hf : ∀ x, (f x).length = k) (hR : ∀ x ∈ L, R x (f x))
    (h : w.ownsRow base e k v n (L.flatMap f)) (hn : n ≤ rowMax) : Row w k R v L := by
  have hl : L.length = n := by
    have := h.1
    rw [flat_len hf] at this
    exact Nat.eq_of_mul_eq_mul_right h0k this
  rcases h.2 with ⟨rfl, h0⟩ | ⟨g, cap, cur, rfl, _, hg, h1, h2, h3, h4⟩
  · have : L = [] := List.eq_nil_of_length_eq_zero (by omega)
    subst this
    exact Row.nil _ _ _
  · refine ⟨_, cap, by rw [hl], by omega, fun hp => ⟨g, 0, rfl, ?_, fun i x hx => ⟨f x, hR x (List.mem_of_getElem? hx), hf x, fun j u hu => ?_⟩⟩⟩
    · by_cases hlt : g < w.heap.size
      · exact hlt
      · rw [Array.getElem?_eq_none (by omega)] at hg; cases hg
    · have hj : j < k := by have := (List.getElem?_eq_some_iff.1 hu).1; rw [hf] at this; exact this
      have hi : i < L.length := (List.getElem?_eq_some_iff.1 hx).1
      rw [Nat.zero_add, (row_cell hg _).1, ← Array.getElem?_toList]
      have h5 := flat_at hf hx j u hu
      rw [← h4, List.getElem?_take_of_lt (by
        have : (i + 1) * k ≤ n * k := Nat.mul_le_mul_right k (by omega)
        rw [Nat.add_mul] at this; omega)] at h5
      exact h5
def cellsW (ws : List MW) : List Value := ws.flatMap MW.cells
theorem cellsW_app (a b : List MW) : cellsW (a ++ b) = cellsW a ++ cellsW b := by simp [cellsW]
theorem own_rowW {w : World} {base e n : Nat} {v : Value} {L : List MW} (hL : ∀ x ∈ L, I64 x.who ∧ I64 x.frm ∧ I64 x.len) (h : w.ownsRow base e 3 v n (cellsW L)) (hn : n ≤ rowMax) : Row w 3 RW v L :=
  own_rowK (by decide) (fun _ => rfl) (fun x hx => ⟨rfl, hL x hx⟩) h hn
theorem row_good {w : World} {v : Value} {ws : List MW} (h : Row w 3 RW v ws) : ∀ x ∈ ws, I64 x.who ∧ I64 x.frm ∧ I64 x.len := by
  intro x hx
  obtain ⟨i, hi, rfl⟩ := List.getElem_of_mem hx
  obtain ⟨a, cap, _, _, h1⟩ := h.ex
  obtain ⟨b, off, _, _, h2⟩ := h1 (by omega)
  obtain ⟨cs, h3, _⟩ := h2 i ws[i] (List.getElem?_eq_getElem hi)
  exact h3.2
theorem frown_form {w : World} {base e size : Nat} {v : Value} {n : Nat} {xs : List Value} (h : w.ownsRow base e size v n xs) : ∃ A c, v = .slice A n c := by
  rcases h.2 with ⟨rfl, rfl⟩ | ⟨g, cap, cur, hv, _⟩
  · exact ⟨_, _, rfl⟩
  · exact ⟨_, _, hv⟩
theorem frinfo_of {e : TypeId} {z : Value} {s b : Nat} (h : (Try.prog.info? e).map (fun i => (i.zero, i.size, i.bytes)) = some (some z, s, b)) : ∃ i, Try.prog.info? e = some i ∧ i.zero = some z ∧ i.size = s ∧ i.bytes = b := by
  cases hq : Try.prog.info? e with
  | none => rw [hq] at h; cases h
  | some i =>
    rw [hq] at h
    simp only [Option.map_some, Option.some.injEq, Prod.mk.injEq] at h
    exact ⟨i, rfl, h.1, h.2.1, h.2.2⟩
theorem win_info : (Try.prog.info? 40).map (fun i => (i.zero, i.size, i.bytes)) = some (some (.agg #[.int .i64 0, .int .i64 0, .int .i64 0]), 3, 24) := by kernel_rfl
theorem results_cell_mid {P : Program} {fn : Func} {p : Tmp} {ty : TypeId} (h : fn.results = #[.cell p ty]) (tmps : Array Value) (w : World) (g : Nat) (cs : List Value) (d : TypeDesc)
    (hp : tmps.getD p undef = .pointer (some ⟨g, 0, none⟩)) (hc : w.rangeAt g 0 cs)
    (hu : P.underlying ty = some d) (hd : d.isRow = true) (hi : (P.info? ty).map (·.size) = some cs.length) :
    (results fn tmps).run P w = .ok (.agg cs.toArray) w := by
  have hp' : tmps[p]?.getD undef = .pointer (some ⟨g, 0, none⟩) := by simpa using hp
  simp [results, h, hp', asAddr, run_loadVar_mid w g 0 ty cs d hc hu hd hi]
theorem set_three {w : World} {g : Nat} {c0 c1 c2 : Value} {t : TypeId} (h : w.heap[g]? = some (.cells #[c0, c1, c2] t (0, 0))) (a b c : Value) :
    (((w.setCell ⟨g, 0, none⟩ a).setCell ⟨g, 1, none⟩ b).setCell ⟨g, 2, none⟩ c).rangeAt g 0 [a, b, c] := by
  have k0 := (row_cell h 0).1
  have k1 := (row_cell h 1).1
  have k2 := (row_cell h 2).1
  simp at k0 k1 k2
  intro j v hv
  match j, hv with
  | 0, hv =>
    simp at hv; subst hv
    rw [Nat.zero_add, World.cell?_setCell_other _ _ _ _ (by simp), World.cell?_setCell_other _ _ _ _ (by simp)]
    exact World.cell?_setCell_same _ _ _ k0
  | 1, hv =>
    simp at hv; subst hv
    rw [World.cell?_setCell_other _ _ _ _ (by simp)]
    exact World.cell?_setCell_same _ _ _ ((World.cell?_setCell_other _ _ _ _ (by simp)).trans k1)
  | 2, hv =>
    simp at hv; subst hv
    exact World.cell?_setCell_same _ _ _ ((World.cell?_setCell_other _ _ _ _ (by simp)).trans ((World.cell?_setCell_other _ _ _ _ (by simp)).trans k2))
  | j + 3, hv => simp at hv
theorem below_three {B : Nat} {a w : World} (h : Below B a w) {g : Nat} (hg : B ≤ g) (x y z : Value) : Below B a (((w.setCell ⟨g, 0, none⟩ x).setCell ⟨g, 1, none⟩ y).setCell ⟨g, 2, none⟩ z) :=
  ((h.setCell (p := ⟨g, 0, none⟩) hg x).setCell (p := ⟨g, 1, none⟩) hg y).setCell (p := ⟨g, 2, none⟩) hg z
end Go.Proofs.Ytcnhghnkocdjkaa
