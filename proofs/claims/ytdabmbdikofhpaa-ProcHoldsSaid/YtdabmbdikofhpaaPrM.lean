/-
  Processes as plain things, what becomes of them, and how a table of them reads in memory. Each statement bears its own conditions.
-/
import Derived.Test.YtdabmbdikofhpaaSpM
namespace Go.Proofs.Ytdabmbdikofhpaa.P
open Go.RowKit
set_option linter.unusedVariables false
set_option linter.unusedSimpArgs false
/-- A process. -/
structure MP where
  pri : Int
  per : Int
  cap : Int
  dea : Int
  off : Int
  sta : Int
  hel : Bool
  bas : Int
  rai : Int
  unt : Int
  frm : Int
  usd : Int
  mis : Bool
/-- Its cells. -/
def MP.cells (x : MP) : List Value := [.int .i64 x.pri, .int .i64 x.per, .int .i64 x.cap, .int .i64 x.dea, .int .i64 x.off, .int .i64 x.sta, .bool x.hel, .int .i64 x.bas, .int .i64 x.rai, .int .i64 x.unt, .int .i64 x.frm, .int .i64 x.usd, .bool x.mis]
theorem MP.cells_len (x : MP) : x.cells.length = 13 := rfl
theorem MP.cells_one (x : MP) : ∀ u ∈ x.cells, u.oneCell' = true := by
  intro u hu
  simp [MP.cells] at hu
  rcases hu with rfl | rfl | rfl | rfl | rfl | rfl | rfl | rfl | rfl | rfl | rfl | rfl | rfl <;> rfl
def stopP (x : MP) : MP := { x with sta := 0, hel := false, bas := x.pri, rai := 0, unt := 0, frm := 0, usd := 0, mis := false }
def goOnP (x : MP) : MP := { x with sta := 1, unt := 0 }
def beginP (x : MP) (t : Int) : MP := { x with sta := 1, unt := 0, frm := t, usd := 0, mis := false }
def restP (x : MP) (t : Int) : MP := { x with sta := 3, unt := t, frm := 0, usd := 0, mis := false }
def startP (x : MP) (t : Int) : MP := if 0 < x.off then restP x (t + x.off) else beginP x t
def doneP (x : MP) (t : Int) : MP := if x.per = 0 then stopP x else if x.frm + x.per ≤ t then beginP x (x.frm + x.per) else restP x (x.frm + x.per)
def doneN (x : MP) : Int := if x.per = 0 then -1 else x.frm + x.per
def chargeP (x : MP) (n : Int) : MP := { x with usd := min (x.usd + n) 1099511627776 }
def waitP (x : MP) (t : Int) : MP := { x with sta := 2, unt := t }
def overB (x : MP) : Bool := decide (0 < x.cap ∧ x.cap < x.usd)
def leftN (x : MP) : Int := if x.cap = 0 then -1 else max (x.cap - x.usd) 0
def lateB (x : MP) (t : Int) : Bool := decide (0 < x.dea ∧ (x.sta = 1 ∨ x.sta = 2) ∧ x.mis = false ∧ x.frm + x.dea ≤ t)
def missP (x : MP) (t : Int) : MP := if lateB x t then { x with mis := true } else x
def stateN (x : MP) : Int := if x.hel then 4 else x.sta
def currentN (x : MP) : Int := max x.bas x.rai
def readyB (x : MP) : Bool := decide (x.sta = 1 ∧ x.hel = false)
def dormB (x : MP) : Bool := decide (x.sta = 0)
def startedB (x : MP) : Bool := decide (x.sta ≠ 0)
def freeB (x : MP) : Bool := decide (x.sta ≠ 0 ∧ x.hel = false)
def waitB (x : MP) : Bool := decide (x.sta = 2)
def hasB (x : MP) : Bool := decide (x.sta = 1 ∨ x.sta = 2)
def dueB (x : MP) (t : Int) : Bool := decide (x.sta = 3 ∧ x.unt ≤ t)
def TK (n : Int) : Prop := 0 ≤ n ∧ n ≤ 1099511627776
instance (n : Int) : Decidable (TK n) := inferInstanceAs (Decidable (_ ∧ _))
def PRI (n : Int) : Prop := 1 ≤ n ∧ n ≤ 63
instance (n : Int) : Decidable (PRI n) := inferInstanceAs (Decidable (_ ∧ _))
/-- What holds of each process of a table. -/
structure Ok (x : MP) : Prop where
  pri : 1 ≤ x.pri ∧ x.pri ≤ 63
  per : 0 ≤ x.per ∧ x.per ≤ 1048576
  cap : 0 ≤ x.cap ∧ x.cap ≤ 1048576
  dea : 0 ≤ x.dea ∧ x.dea ≤ 1048576
  off : 0 ≤ x.off ∧ x.off ≤ 1048576
  sta : 0 ≤ x.sta ∧ x.sta ≤ 3
  bas : 1 ≤ x.bas ∧ x.bas ≤ 63
  rai : 0 ≤ x.rai ∧ x.rai ≤ 63
  unt : -1 ≤ x.unt ∧ x.unt ≤ 1099512676352
  frm : 0 ≤ x.frm ∧ x.frm ≤ 1099511627776
  usd : 0 ≤ x.usd ∧ x.usd ≤ 1099511627776
theorem Ok.stop {x : MP} (h : Ok x) : Ok (stopP x) := ⟨h.pri, h.per, h.cap, h.dea, h.off, by simp [stopP], h.pri, by simp [stopP], by simp [stopP], by simp [stopP], by simp [stopP]⟩
theorem Ok.goOn {x : MP} (h : Ok x) : Ok (goOnP x) := ⟨h.pri, h.per, h.cap, h.dea, h.off, by simp [goOnP], h.bas, h.rai, by simp [goOnP], h.frm, h.usd⟩
theorem Ok.begin_ {x : MP} (h : Ok x) {t : Int} (ht : TK t) : Ok (beginP x t) := ⟨h.pri, h.per, h.cap, h.dea, h.off, by simp [beginP], h.bas, h.rai, by simp [beginP], ht, by simp [beginP]⟩
theorem Ok.rest {x : MP} (h : Ok x) {t : Int} (ht : -1 ≤ t ∧ t ≤ 1099512676352) : Ok (restP x t) := ⟨h.pri, h.per, h.cap, h.dea, h.off, by simp [restP], h.bas, h.rai, ht, by simp [restP], by simp [restP]⟩
theorem Ok.start {x : MP} (h : Ok x) {t : Int} (ht : TK t) : Ok (startP x t) := by
  unfold startP
  split
  · exact h.rest (by have := h.off; have := ht.1; have := ht.2; omega)
  · exact h.begin_ ht
theorem Ok.done {x : MP} (h : Ok x) {t : Int} (ht : TK t) : Ok (doneP x t) := by
  have h1 := h.per; have h2 := h.frm; have h3 := ht.2
  unfold doneP
  split
  · exact h.stop
  · split
    · exact h.begin_ ⟨by omega, by omega⟩
    · exact h.rest (by omega)
theorem Ok.charge {x : MP} (h : Ok x) {n : Int} (hn : TK n) : Ok (chargeP x n) := by
  refine ⟨h.pri, h.per, h.cap, h.dea, h.off, h.sta, h.bas, h.rai, h.unt, h.frm, ?_⟩
  have h1 := h.usd; have h2 := hn.1
  unfold chargeP
  dsimp only
  omega
theorem Ok.wait {x : MP} (h : Ok x) {t : Int} (ht : -1 ≤ t ∧ t ≤ 1099511627776) : Ok (waitP x t) := ⟨h.pri, h.per, h.cap, h.dea, h.off, by simp [waitP], h.bas, h.rai, by simp [waitP]; omega, h.frm, h.usd⟩
theorem Ok.miss {x : MP} (h : Ok x) (t : Int) : Ok (missP x t) := by
  unfold missP
  split
  · exact ⟨h.pri, h.per, h.cap, h.dea, h.off, h.sta, h.bas, h.rai, h.unt, h.frm, h.usd⟩
  · exact h
/-- Rows of thirteen cells. -/
def RC (L : List (List Value)) : List Value := L.flatten
theorem rc_len {L : List (List Value)} (h : ∀ c ∈ L, c.length = 13) : (RC L).length = L.length * 13 := by
  induction L with
  | nil => rfl
  | cons x r ih =>
    have h1 := h x (by simp)
    have h2 := ih (fun c hc => h c (by simp [hc]))
    unfold RC at *
    rw [List.flatten_cons, List.length_append, h1, h2, List.length_cons]
    omega
theorem rc_at {L : List (List Value)} (h : ∀ c ∈ L, c.length = 13) {i j : Nat} {c : List Value} (hc : L[i]? = some c) (hj : j < 13) : (RC L)[i * 13 + j]? = c[j]? := by
  induction L generalizing i with
  | nil => simp at hc
  | cons x r ih =>
    have h1 := h x (by simp)
    unfold RC at *
    rw [List.flatten_cons]
    cases i with
    | zero =>
      simp at hc; subst hc
      rw [List.getElem?_append_left (by omega)]
      congr 1; omega
    | succ i =>
      rw [List.getElem?_append_right (by omega)]
      have : (i + 1) * 13 + j - x.length = i * 13 + j := by omega
      rw [this]
      exact ih (fun c hc => h c (by simp [hc])) (by simpa using hc)
theorem rc_set {L : List (List Value)} (h : ∀ c ∈ L, c.length = 13) {i j : Nat} {c : List Value} (hc : L[i]? = some c) (hj : j < 13) (v : Value) : RC (L.set i (c.set j v)) = (RC L).set (i * 13 + j) v := by
  induction L generalizing i with
  | nil => simp at hc
  | cons x r ih =>
    have h1 := h x (by simp)
    unfold RC at *
    cases i with
    | zero =>
      simp at hc; subst hc
      rw [List.set_cons_zero, List.flatten_cons, List.flatten_cons, List.set_append_left _ _ (by omega)]
      congr 2; omega
    | succ i =>
      rw [List.set_cons_succ, List.flatten_cons, List.flatten_cons, List.set_append_right _ _ (by omega)]
      have : (i + 1) * 13 + j - x.length = i * 13 + j := by omega
      rw [this, ih (fun c hc => h c (by simp [hc])) (by simpa using hc)]
def CP (l : List MP) : List Value := RC (l.map MP.cells)
theorem map_13 (l : List MP) : ∀ c ∈ l.map MP.cells, c.length = 13 := by
  intro c hc
  obtain ⟨x, _, rfl⟩ := List.mem_map.1 hc
  rfl
theorem CP_len (l : List MP) : (CP l).length = l.length * 13 := by unfold CP; rw [rc_len (map_13 l)]; simp
theorem CP_at {l : List MP} {i : Nat} {x : MP} (h : l[i]? = some x) : ∀ j u, x.cells[j]? = some u → (CP l)[i * 13 + j]? = some u := by
  intro j u hu
  have hj : j < 13 := (List.getElem?_eq_some_iff.1 hu).1
  unfold CP
  rw [rc_at (map_13 l) (c := x.cells) (by simp [h]) hj, hu]
theorem CP_one (l : List MP) : ∀ u ∈ CP l, u.oneCell' = true := by
  intro u hu
  unfold CP RC at hu
  obtain ⟨c, hc, hu⟩ := List.mem_flatten.1 hu
  obtain ⟨x, _, rfl⟩ := List.mem_map.1 hc
  exact x.cells_one u hu
theorem CP_app (a b : List MP) : CP (a ++ b) = CP a ++ CP b := by simp [CP, RC]
/-- A table in memory: its own block p, its processes in block rb, as rows of thirteen cells, all of it from lo to hi. -/
structure RT (lo hi : Nat) (w : World) (p rb : Nat) (L : List (List Value)) : Prop where
  hs : hi ≤ w.heap.size
  hp : lo ≤ p ∧ p < hi
  hr : lo ≤ rb ∧ rb < hi
  ne : p ≠ rb
  each : ∀ c ∈ L, c.length = 13
  ex : ∃ cap, w.heap[p]? = some (.cells #[.slice (some ⟨rb, 0, none⟩) L.length cap] 75 (0, 0)) ∧ w.ownsRow lo 73 13 (.slice (some ⟨rb, 0, none⟩) L.length cap) L.length (RC L)
theorem own_base' {w : World} {b0 b1 e size n : Nat} {v : Value} {xs : List Value} (h : w.ownsRow b1 e size v n xs) (hb : b0 ≤ b1) : w.ownsRow b0 e size v n xs := by
  refine ⟨h.1, ?_⟩
  rcases h.2 with h1 | ⟨g, cap, cur, hv, hbg, r⟩
  · exact .inl h1
  · exact .inr ⟨g, cap, cur, hv, Nat.le_trans hb hbg, r⟩
theorem own_same' {w w' : World} {b e size n : Nat} {v : Value} {xs : List Value} (h : w.ownsRow b e size v n xs) (hs : ∀ g, v.ownBlock = some g → w'.heap[g]? = w.heap[g]?) : w'.ownsRow b e size v n xs := by
  refine ⟨h.1, ?_⟩
  rcases h.2 with h1 | ⟨g, cap, cur, hv, hbg, hg, r⟩
  · exact .inl h1
  · refine .inr ⟨g, cap, cur, hv, hbg, ?_, r⟩
    subst hv
    rw [hs g rfl]; exact hg
section
variable {lo hi p rb : Nat} {w w' : World} {L : List (List Value)}
theorem RT.keep (h : RT lo hi w p rb L) (hz : hi ≤ w'.heap.size) (hk : ∀ k, lo ≤ k → k < hi → w'.heap[k]? = w.heap[k]?) : RT lo hi w' p rb L := by
  obtain ⟨cap, h1, h2⟩ := h.ex
  refine ⟨hz, h.hp, h.hr, h.ne, h.each, cap, (hk p h.hp.1 h.hp.2).trans h1, own_same' h2 fun g hg => ?_⟩
  injection hg with hg
  subst hg
  exact hk rb h.hr.1 h.hr.2
theorem RT.below (h : RT lo hi w p rb L) (hb : Below w.heap.size w w') : RT lo hi w' p rb L :=
  h.keep (Nat.le_trans h.hs hb.size) fun k _ hk => hb.block k (Nat.lt_of_lt_of_le hk h.hs)
theorem RT.past {g : Nat} (h : RT lo hi w p rb L) (hb : Past g w w') (hg : g < lo ∨ hi ≤ g) : RT lo hi w' p rb L :=
  h.keep (Nat.le_trans h.hs hb.size) fun k h1 h2 => hb.block k (Nat.lt_of_lt_of_le h2 h.hs) (by omega)
theorem RT.cell (h : RT lo hi w p rb L) : ∃ cap, w.cell? ⟨p, 0, none⟩ = some (.slice (some ⟨rb, 0, none⟩) L.length cap) ∧ L.length ≤ cap := by
  obtain ⟨cap, h1, h2⟩ := h.ex
  refine ⟨cap, by simpa using (row_cell h1 0).1, ?_⟩
  rcases h2.2 with ⟨h5, _⟩ | ⟨g', cap', cur, hv, _, _, h6, _⟩
  · cases h5
  · injection hv with e1 e2 e3
    omega
theorem RT.at_ (h : RT lo hi w p rb L) {i : Nat} {c : List Value} (hc : L[i]? = some c) {j : Nat} {u : Value} (hu : c[j]? = some u) : w.cell? ⟨rb, i * 13 + j, none⟩ = some u ∧ w.frozen? ⟨rb, i * 13 + j, none⟩ = false := by
  obtain ⟨cap, h1, h2⟩ := h.ex
  have hl := h.each c (List.mem_of_getElem? hc)
  have hj : j < 13 := by have := (List.getElem?_eq_some_iff.1 hu).1; omega
  have h3 : (RC L)[i * 13 + j]? = some u := by rw [rc_at h.each hc hj]; exact hu
  have h4 := h2.cells (g := rb) rfl _ _ h3
  rw [Addr.add_lit] at h4
  refine ⟨by simpa using h4, ?_⟩
  rcases h2.2 with ⟨h5, _⟩ | ⟨g', cap', cur, hv, _, hg, _⟩
  · cases h5
  · injection hv with e1 e2 e3
    injection e1 with e1
    injection e1 with e1
    subst e1
    exact (row_cell hg _).2
/-- A cell of a process is written. -/
theorem RT.put (h : RT lo hi w p rb L) {i : Nat} {c : List Value} (hc : L[i]? = some c) {j : Nat} (hj : j < 13) (v : Value) (hv : v.oneCell' = true) : RT lo hi (w.setCell ⟨rb, i * 13 + j, none⟩ v) p rb (L.set i (c.set j v)) := by
  obtain ⟨cap, h1, h2⟩ := h.ex
  have hl := h.each c (List.mem_of_getElem? hc)
  have hi : i < L.length := (List.getElem?_eq_some_iff.1 hc).1
  refine ⟨by simpa [World.setCell] using h.hs, h.hp, h.hr, h.ne, fun d hd => ?_, cap, ?_, ?_⟩
  · rcases List.mem_or_eq_of_mem_set hd with h3 | rfl
    · exact h.each d h3
    · simpa using hl
  · rw [List.length_set, Below.heap_setCell _ _ _ _ h.ne]; exact h1
  · rw [List.length_set]
    have hlen : (RC L).length = L.length * 13 := rc_len h.each
    refine ⟨by rw [rc_set h.each hc hj]; simpa using h2.1, .inr ?_⟩
    rcases h2.2 with ⟨h5, _⟩ | ⟨g', cap', cur, hv', hb, hg, h6, h7, h8, h9⟩
    · cases h5
    · injection hv' with e1 e2 e3
      injection e1 with e1
      injection e1 with e1
      subst e1 e3
      refine ⟨rb, cap, cur.setIfInBounds (i * 13 + j) v, rfl, hb, ?_, h6, h7, by simpa using h8, ?_⟩
      · obtain ⟨hlt, hge⟩ := Array.getElem?_eq_some_iff.1 hg
        simp [World.setCell, Array.getElem_modify, hge, hlt]
      · rw [rc_set h.each hc hj, ← h9, Array.toList_setIfInBounds]
        rw [List.take_set]
end
end Go.Proofs.Ytdabmbdikofhpaa.P
