/-
  Maps by keys of two numbers, as lists. Each statement bears its own conditions.
-/
import Derived.Test.YthnlkfcfiieddaaFo
import Derived.MapKept
import Derived.WideKeyEntry
import Derived.Carry
import Derived.Deep.QuietTactic
namespace Go.Proofs.Ythnlkfcfiieddaa.Hl
open Go.RowKit Go.Proofs.Ythnlkfcfiieddaa.F 
set_option linter.unusedVariables false
set_option linter.unusedSimpArgs false
/-- A key of two numbers. -/
def kv (a c : Int) : Value := .agg #[.int .i64 a, .int .i64 c]
/-- Where a key stands first, and what stands there. -/
def look : List ((Int × Int) × Int) → Int → Int → Nat → Option (Nat × Int)
  | [], _, _, _ => none
  | p :: r, a, c, i => if a = p.1.1 ∧ c = p.1.2 then some (i, p.2) else look r a c (i + 1)
def getL (L : List ((Int × Int) × Int)) (a c : Int) : Option Int := (look L a c 0).map (·.2)
def putL : List ((Int × Int) × Int) → Int → Int → Int → List ((Int × Int) × Int)
  | [], a, c, v => [((a, c), v)]
  | p :: r, a, c, v => if a = p.1.1 ∧ c = p.1.2 then ((a, c), v) :: r else p :: putL r a c v
/-- Entries are the list. -/
def Rel (es : List MapEntry) (L : List ((Int × Int) × Int)) : Prop := es.map (fun e => (e.key, e.val)) = L.map (fun p => (kv p.1.1 p.1.2, Value.int .i64 p.2))
/-- What is asked of a key's type. -/
structure EqK (P : Program) (k : TypeId) : Prop where
  st : ∃ fs, P.underlying k = some (.struct fs)
  eq : ∀ (a c x y : Int) (w : World), (Op.equal k (kv a c) (kv x y)).run P w = .ok (decide (a = x ∧ c = y)) w
  ck : ∀ (em : Bool) (a c : Int) (w : World), (Instr.checkKey em 10000 k (kv a c)).run P w = .ok () w
theorem look_shift (L : List ((Int × Int) × Int)) (a c : Int) (i : Nat) : look L a c (i + 1) = (look L a c i).map fun p => (p.1 + 1, p.2) := by
  induction L generalizing i with
  | nil => rfl
  | cons p r ih =>
    unfold look
    split
    · rfl
    · exact ih (i + 1)
theorem asking_run {P : Program} {k : TypeId} (K : EqK P k) (a c : Int) (w : World) : ∀ (L : List ((Int × Int) × Int)) (es : List MapEntry) (i : Nat), Rel es L → (Instr.findAsking k (kv a c) es i).run P w = .ok ((look L a c i).map fun p => (p.1, Value.int .i64 p.2)) w := by
  intro L
  induction L with
  | nil =>
    intro es i h
    have : es = [] := by cases es with
      | nil => rfl
      | cons e r => simp [Rel] at h
    subst this
    simp [Instr.findAsking, look]
  | cons p r ih =>
    intro es i h
    cases es with
    | nil => simp [Rel] at h
    | cons e es =>
      simp only [Rel, List.map_cons, List.cons.injEq, Prod.mk.injEq] at h
      obtain ⟨⟨h1, h2⟩, h3⟩ := h
      unfold Instr.findAsking
      simp only [Sem.run_bind, h1, K.eq, Result.andThen_ok]
      by_cases hk : a = p.1.1 ∧ c = p.1.2
      · rw [decide_eq_true hk]
        simp [look, hk, h2]
      · rw [decide_eq_false hk]
        simp only [Bool.false_eq_true, if_false]
        rw [ih es (i + 1) h3, show look (p :: r) a c i = if a = p.1.1 ∧ c = p.1.2 then some (i, p.2) else look r a c (i + 1) from rfl, if_neg hk]
theorem find_run {P : Program} {k : TypeId} (K : EqK P k) (a c : Int) (w : World) (L : List ((Int × Int) × Int)) (es : List MapEntry) (h : Rel es L) : (Instr.findKey k (kv a c) es).run P w = .ok ((look L a c 0).map fun p => (p.1, Value.int .i64 p.2)) w := by
  obtain ⟨fs, hs⟩ := K.st
  cases es with
  | nil =>
    have : L = [] := by cases L with
      | nil => rfl
      | cons p r => simp [Rel] at h
    subst this
    simp [Instr.findKey, run_underlying hs, Result.andThen, Instr.findNow, look]
  | cons e es =>
    have hn : Instr.findNow (.struct fs) (kv a c) (e :: es) 0 = none := by
      unfold Instr.findNow
      simp [Instr.sameNow]
    simp only [Instr.findKey, Sem.run_bind, run_underlying hs, Result.andThen_ok, hn]
    exact asking_run K a c w L (e :: es) 0 h
/-- Entries' stamps. -/
def St (es : List MapEntry) (clock : Nat) : Prop := (∀ x ∈ es, x.born < clock) ∧ (es.map (·.born)).Nodup
theorem born_modify (f : MapEntry → MapEntry) (hf : ∀ e, (f e).born = e.born) : ∀ (es : List MapEntry) (i : Nat), (es.modify i f).map (·.born) = es.map (·.born)
  | [], i => by simp
  | e :: r, 0 => by simp [hf]
  | e :: r, i + 1 => by simp [List.modify_succ_cons, born_modify f hf r i]
theorem St.modify {es : List MapEntry} {clock : Nat} (h : St es clock) (f : MapEntry → MapEntry) (hf : ∀ e, (f e).born = e.born) (i : Nat) : St (es.modify i f) clock := by
  refine ⟨fun x hx => ?_, by rw [born_modify f hf]; exact h.2⟩
  have h1 : x.born ∈ (es.modify i f).map (·.born) := List.mem_map.2 ⟨x, hx, rfl⟩
  rw [born_modify f hf] at h1
  obtain ⟨y, hy, e⟩ := List.mem_map.1 h1
  rw [← e]
  exact h.1 y hy
theorem St.push {es : List MapEntry} {clock : Nat} (h : St es clock) (k v : Value) : St (es ++ [⟨k, v, clock⟩]) (clock + 1) := by
  refine ⟨fun x hx => ?_, ?_⟩
  · rcases List.mem_append.1 hx with h1 | h1
    · have := h.1 x h1; omega
    · simp at h1; subst h1; show clock < clock + 1; omega
  · rw [List.map_append]
    refine List.nodup_append.2 ⟨h.2, by simp, fun a ha c hc e1 => ?_⟩
    simp at hc
    obtain ⟨x, hx, rfl⟩ := List.mem_map.1 ha
    have := h.1 x hx
    omega
/-- A map lies in block b. -/
structure MP (w : World) (b : Nat) (L : List ((Int × Int) × Int)) : Prop where
  ex : ∃ es clock, w.heap[b]? = some (.map es clock) ∧ Rel es.toList L ∧ St es.toList clock
section
variable {w w' : World} {b : Nat} {L : List ((Int × Int) × Int)} {q : Nat → Prop}
theorem MP.lt (h : MP w b L) : b < w.heap.size := by
  obtain ⟨es, clock, h1, _⟩ := h.ex
  exact (Array.getElem?_eq_some_iff.1 h1).1
theorem MP.keep (h : MP w b L) (hk : w'.heap[b]? = w.heap[b]?) : MP w' b L := by
  obtain ⟨es, clock, h1, h2, h3⟩ := h.ex
  exact ⟨es, clock, hk.trans h1, h2, h3⟩
theorem MP.below (h : MP w b L) (hb : Below w.heap.size w w') : MP w' b L := h.keep (hb.block b h.lt)
theorem MP.fo (h : MP w b L) (hf : Fo q w w') (hd : ¬ q b) : MP w' b L := h.keep (hf.block b h.lt hd)
theorem MP.made (w : World) : MP (w.alloc (.map #[] 0)) w.heap.size [] := ⟨#[], 0, (MapKept.heap_alloc w _).1, rfl, by simp [St]⟩
end
theorem lookup_ok {P : Program} {w : World} {b : Nat} {L : List ((Int × Int) × Int)} {mt k e : TypeId} (h : MP w b L) (K : EqK P k) (hm : P.underlying mt = some (.map k e)) (hz : (zeroValue e).run P w = .ok (.int .i64 0) w) (a c : Int) :
    (Instr.lookup mt (.map (some b)) (kv a c) true).run P w = .ok (.tuple #[.int .i64 ((getL L a c).getD 0), .bool (getL L a c).isSome]) w := by
  obtain ⟨es, clock, h1, h2, _⟩ := h.ex
  unfold getL
  cases hl : look L a c 0 with
  | none => simp [Instr.lookup, run_underlying hm, MapKept.run_getObj_map h1, K.ck, find_run K a c w L es.toList h2, hl, hz, Result.andThen]
  | some p => simp [Instr.lookup, run_underlying hm, MapKept.run_getObj_map h1, K.ck, find_run K a c w L es.toList h2, hl, Result.andThen]
theorem lookup_one {P : Program} {w : World} {b : Nat} {L : List ((Int × Int) × Int)} {mt k e : TypeId} (h : MP w b L) (K : EqK P k) (hm : P.underlying mt = some (.map k e)) (hz : (zeroValue e).run P w = .ok (.int .i64 0) w) (a c : Int) :
    (Instr.lookup mt (.map (some b)) (kv a c) false).run P w = .ok (.int .i64 ((getL L a c).getD 0)) w := by
  obtain ⟨es, clock, h1, h2, _⟩ := h.ex
  unfold getL
  cases hl : look L a c 0 with
  | none => simp [Instr.lookup, run_underlying hm, MapKept.run_getObj_map h1, K.ck, find_run K a c w L es.toList h2, hl, hz, Result.andThen]
  | some p => simp [Instr.lookup, run_underlying hm, MapKept.run_getObj_map h1, K.ck, find_run K a c w L es.toList h2, hl, Result.andThen]
theorem rel_put : ∀ (L : List ((Int × Int) × Int)) (es : List MapEntry) (a c v : Int), Rel es L →
    (∀ i x, look L a c 0 = some (i, x) → ∀ e, es[i]? = some e → e.key = kv a c) ∧
    (look L a c 0 = none → ∀ e : MapEntry, e.key = kv a c → e.val = .int .i64 v → Rel (es ++ [e]) (putL L a c v)) ∧
    (∀ i x, look L a c 0 = some (i, x) → Rel (es.modify i fun e => { e with key := kv a c, val := .int .i64 v }) (putL L a c v)) := by
  intro L
  induction L with
  | nil =>
    intro es a c v h
    have : es = [] := by cases es with
      | nil => rfl
      | cons e r => simp [Rel] at h
    subst this
    refine ⟨fun i x h => (by simp [look] at h), fun _ e h1 h2 => ?_, fun i x h => (by simp [look] at h)⟩
    simp [Rel, putL, h1, h2]
  | cons p r ih =>
    intro es a c v h
    cases es with
    | nil => simp [Rel] at h
    | cons e es =>
      have h' := h
      simp only [Rel, List.map_cons, List.cons.injEq, Prod.mk.injEq] at h
      obtain ⟨⟨h1, h2⟩, h3⟩ := h
      obtain ⟨i1, i2, i3⟩ := ih es a c v h3
      by_cases hk : a = p.1.1 ∧ c = p.1.2
      · have hl : look (p :: r) a c 0 = some (0, p.2) := by unfold look; rw [if_pos hk]
        have hp : putL (p :: r) a c v = ((a, c), v) :: r := by unfold putL; rw [if_pos hk]
        refine ⟨fun i x hx e' he' => ?_, fun hn => (by rw [hl] at hn; cases hn), fun i x hx => ?_⟩
        · rw [hl] at hx
          injection hx with hx
          injection hx with hi _
          subst hi
          simp at he'
          subst he'
          rw [h1, hk.1, hk.2]
        · rw [hl] at hx
          injection hx with hx
          injection hx with hi _
          subst hi
          rw [hp]
          simp only [Rel, List.modify_zero_cons, List.map_cons]
          rw [h3]
      · have hl : look (p :: r) a c 0 = (look r a c 0).map fun p => (p.1 + 1, p.2) := by
          show (if _ then _ else _) = _
          rw [if_neg hk, look_shift]
        have hp : putL (p :: r) a c v = p :: putL r a c v := by
          show (if _ then _ else _) = _
          rw [if_neg hk]
        refine ⟨fun i x hx e' he' => ?_, fun hn e' he1 he2 => ?_, fun i x hx => ?_⟩
        · rw [hl] at hx
          cases hr : look r a c 0 with
          | none => rw [hr] at hx; cases hx
          | some y =>
            rw [hr] at hx
            injection hx with hx
            injection hx with hi _
            subst hi
            rw [List.getElem?_cons_succ] at he'
            exact i1 y.1 y.2 hr e' he'
        · rw [hl] at hn
          have hr : look r a c 0 = none := by
            cases hr : look r a c 0 with
            | none => rfl
            | some y => rw [hr] at hn; cases hn
          have := i2 hr e' he1 he2
          rw [hp]
          simp only [Rel, List.cons_append, List.map_cons, h1, h2] at this ⊢
          rw [this]
        · rw [hl] at hx
          cases hr : look r a c 0 with
          | none => rw [hr] at hx; cases hx
          | some y =>
            rw [hr] at hx
            injection hx with hx
            injection hx with hi _
            subst hi
            have := i3 y.1 y.2 hr
            rw [hp]
            simp only [Rel, List.modify_succ_cons, List.map_cons, h1, h2] at this ⊢
            rw [this]
theorem stays_kv (a c : Int) {P : Program} (w : World) : (Instr.keyThatStays (kv a c) (kv a c)).run P w = .ok (kv a c) w := by
  have : Instr.sameBits 10000 (kv a c) (kv a c) = true := by
    show Instr.sameBits (9999 + 1) _ _ = true
    simp [kv, Instr.sameBits]
  simp [Instr.keyThatStays, this]
/-- A store. -/
theorem update_run {P : Program} {w : World} {b : Nat} {L : List ((Int × Int) × Int)} {mt k e : TypeId} (h : MP w b L) (K : EqK P k) (hm : P.underlying mt = some (.map k e)) (a c v : Int) :
    ∃ w', (Instr.mapUpdate mt (.map (some b)) (kv a c) (.int .i64 v)).run P w = .ok () w' ∧ MP w' b (putL L a c v) ∧ Fo (fun x => x = b) w w' := by
  obtain ⟨es, clock, h1, h2, h3⟩ := h.ex
  obtain ⟨i1, i2, i3⟩ := rel_put L es.toList a c v h2
  have hlt := h.lt
  have hfo : ∀ o : Obj, Fo (fun x => x = b) w { w with heap := w.heap.setIfInBounds b o } := fun o => ⟨rfl, rfl, rfl, by simp, fun k hk hn => by
    show (w.heap.setIfInBounds b o)[k]? = _
    rw [Array.getElem?_setIfInBounds_ne (fun e => hn e.symm)]⟩
  have hget : ∀ o : Obj, ({ w with heap := w.heap.setIfInBounds b o } : World).heap[b]? = some o := fun o => by
    show (w.heap.setIfInBounds b o)[b]? = _
    rw [Array.getElem?_setIfInBounds_self_of_lt hlt]
  cases hl : look L a c 0 with
  | none =>
    refine ⟨{ w with heap := w.heap.setIfInBounds b (.map (es.push ⟨kv a c, .int .i64 v, clock⟩) (clock + 1)) }, ?_, ⟨_, _, hget _, ?_, ?_⟩, hfo _⟩
    · simp [Instr.mapUpdate, run_underlying hm, MapKept.run_getObj_map h1, K.ck, find_run K a c w L es.toList h2, hl, MapKept.run_setObj_map _ h1, Result.andThen]
    · rw [Array.toList_push]
      exact i2 hl _ rfl rfl
    · rw [Array.toList_push]
      exact h3.push _ _
  | some p =>
    have hk : ((es[p.1]?).map (·.key)).getD (kv a c) = kv a c := by
      cases he : es[p.1]? with
      | none => rfl
      | some e0 => exact i1 p.1 p.2 hl e0 (by rw [← he]; simp)
    refine ⟨{ w with heap := w.heap.setIfInBounds b (.map (es.modify p.1 fun e => { e with key := kv a c, val := .int .i64 v }) clock) }, ?_, ⟨_, _, hget _, ?_, ?_⟩, hfo _⟩
    · simp [Instr.mapUpdate, run_underlying hm, MapKept.run_getObj_map h1, K.ck, find_run K a c w L es.toList h2, hl, hk, stays_kv, MapKept.run_setObj_map _ h1, Result.andThen]
    · rw [Array.toList_modify]
      exact i3 p.1 p.2 hl
    · rw [Array.toList_modify]
      exact St.modify h3 (fun e => { e with key := kv a c, val := .int .i64 v }) (fun _ => rfl) p.1
theorem get_put (L : List ((Int × Int) × Int)) (a c v x y : Int) : getL (putL L a c v) x y = if x = a ∧ y = c then some v else getL L x y := by
  unfold getL
  induction L with
  | nil =>
    unfold putL look
    split
    · rfl
    · rfl
  | cons p r ih =>
    unfold putL
    by_cases hk : a = p.1.1 ∧ c = p.1.2
    · rw [if_pos hk]
      unfold look
      by_cases hx : x = a ∧ y = c
      · rw [if_pos hx, if_pos hx]; rfl
      · rw [if_neg hx, if_neg hx, if_neg (by rw [← hk.1, ← hk.2]; exact hx)]
    · rw [if_neg hk]
      unfold look
      by_cases hx : x = p.1.1 ∧ y = p.1.2
      · rw [if_pos hx, if_pos hx, if_neg (fun h => hk (by rw [← h.1, ← h.2]; exact hx))]
      · rw [if_neg hx, if_neg hx, look_shift, look_shift, Option.map_map, Option.map_map]
        exact ih
theorem set_block {w : World} {b : Nat} (hlt : b < w.heap.size) (o : Obj) : ({ w with heap := w.heap.setIfInBounds b o } : World).heap[b]? = some o ∧ Fo (fun x => x = b) w { w with heap := w.heap.setIfInBounds b o } := by
  refine ⟨?_, rfl, rfl, rfl, by simp, fun k hk hn => ?_⟩
  · show (w.heap.setIfInBounds b o)[b]? = _
    rw [Array.getElem?_setIfInBounds_self_of_lt hlt]
  · show (w.heap.setIfInBounds b o)[k]? = _
    rw [Array.getElem?_setIfInBounds_ne (fun e => hn e.symm)]
theorem rel_at : ∀ (L : List ((Int × Int) × Int)) (es : List MapEntry) (a c : Int) (i : Nat) (x : Int), Rel es L → look L a c 0 = some (i, x) → ∃ e, es[i]? = some e ∧ e.val = .int .i64 x ∧ e.key = kv a c := by
  intro L
  induction L with
  | nil => intro es a c i x _ h; simp [look] at h
  | cons p r ih =>
    intro es a c i x h hl
    cases es with
    | nil => simp [Rel] at h
    | cons e es =>
      simp only [Rel, List.map_cons, List.cons.injEq, Prod.mk.injEq] at h
      obtain ⟨⟨h1, h2⟩, h3⟩ := h
      by_cases hk : a = p.1.1 ∧ c = p.1.2
      · rw [show look (p :: r) a c 0 = if a = p.1.1 ∧ c = p.1.2 then some (0, p.2) else look r a c (0 + 1) from rfl, if_pos hk] at hl
        injection hl with hl
        injection hl with hi hx
        subst hi hx
        exact ⟨e, rfl, h2, by rw [h1, hk.1, hk.2]⟩
      · rw [show look (p :: r) a c 0 = if a = p.1.1 ∧ c = p.1.2 then some (0, p.2) else look r a c (0 + 1) from rfl, if_neg hk, look_shift] at hl
        cases hr : look r a c 0 with
        | none => rw [hr] at hl; cases hl
        | some y =>
          rw [hr] at hl
          injection hl with hl
          injection hl with hi hx
          obtain ⟨e', q1, q2⟩ := ih es a c y.1 y.2 h3 hr
          subst hi hx
          exact ⟨e', by rw [List.getElem?_cons_succ]; exact q1, q2⟩
/-- An entry, made if there is none, and a store into it. -/
theorem entry_run {P : Program} {w : World} {b : Nat} {L : List ((Int × Int) × Int)} {mt k e : TypeId} (h : MP w b L) (K : EqK P k) (hm : P.underlying mt = some (.map k e)) (hz : ∀ u : World, (zeroValue e).run P u = .ok (.int .i64 0) u) (a c : Int) :
    ∃ (x : Int) (st : Nat) (w1 : World) (L1 : List ((Int × Int) × Int)), (Instr.mapEntry mt (.map (some b)) (kv a c)).run P w = .ok (.tuple #[.int .i64 x, goInt st]) w1 ∧ Fo (fun y => y = b) w w1 ∧ MP w1 b L1 ∧ (getL L1 a c).getD 0 = (getL L a c).getD 0 ∧
      ∀ (w2 : World) (v : Int), w2.heap[b]? = w1.heap[b]? → ∃ w3, (Instr.entryStore mt (.map (some b)) (goInt st) (.int .i64 v)).run P w2 = .ok () w3 ∧ MP w3 b (putL L a c v) ∧ Fo (fun y => y = b) w2 w3 := by
  obtain ⟨es, clock, h1, h2, h3⟩ := h.ex
  have hlt := h.lt
  cases hl : look L a c 0 with
  | none =>
    have R1 := fun v : Int => (rel_put L es.toList a c v h2).2.1 hl
    obtain ⟨g1, g2⟩ := set_block hlt (.map (es.push ⟨kv a c, .int .i64 0, clock⟩) (clock + 1))
    have hS := h3.push (kv a c) (.int .i64 0)
    refine ⟨0, clock, _, putL L a c 0, ?_, g2, ⟨_, _, g1, by rw [Array.toList_push]; exact R1 0 _ rfl rfl, by rw [Array.toList_push]; exact hS⟩, ?_, fun w2 v hw2 => ?_⟩
    · simp [Instr.mapEntry, run_underlying hm, MapKept.run_getObj_map h1, K.ck, find_run K a c w L es.toList h2, hl, hz, MapKept.run_setObj_map _ h1, Result.andThen]
    · rw [get_put, if_pos ⟨rfl, rfl⟩]
      unfold getL
      rw [hl]; rfl
    · rw [g1] at hw2
      have hlt2 : b < w2.heap.size := (Array.getElem?_eq_some_iff.1 hw2).1
      have hidx : (es.push ⟨kv a c, .int .i64 0, clock⟩).findIdx? (fun e => ((e.born : Nat) : Int) == ((clock : Nat) : Int)) = some es.size := by
        rw [WideElems.findIdx_arr]
        exact WideElems.findIdx_born (l := (es.push ⟨kv a c, .int .i64 0, clock⟩).toList) (j := es.size) (e0 := ⟨kv a c, .int .i64 0, clock⟩) (by rw [Array.toList_push]; exact hS.2) (by simp)
      have hmod : (es.push ⟨kv a c, .int .i64 0, clock⟩).modify es.size (fun e => { e with val := .int .i64 v }) = es.push ⟨kv a c, .int .i64 v, clock⟩ := by
        apply Array.ext'
        rw [Array.toList_modify, Array.toList_push, Array.toList_push, ← Array.length_toList, WideElems.modify_last]
      obtain ⟨g3, g4⟩ := set_block hlt2 (.map (es.push ⟨kv a c, .int .i64 v, clock⟩) (clock + 1))
      refine ⟨_, ?_, ⟨_, _, g3, by rw [Array.toList_push]; exact R1 v _ rfl rfl, by rw [Array.toList_push]; exact h3.push _ _⟩, g4⟩
      simp [Instr.entryStore, MapKept.run_getObj_map hw2, asInt, asIntOf, goInt, hidx, hmod, MapKept.run_setObj_map _ hw2, Result.andThen]
  | some p =>
    obtain ⟨e0, q1, q2, q3⟩ := rel_at L es.toList a c p.1 p.2 h2 hl
    have hj : es[p.1]? = some e0 := by simpa using q1
    have hsame : es.modify p.1 (fun e => { e with key := kv a c }) = es := by
      apply Array.ext'
      rw [Array.toList_modify, ChangeMaps.modify_eq_set _ _ _ _ q1]
      have : ({ e0 with key := kv a c } : MapEntry) = e0 := by rw [← q3]
      rw [this]
      exact WideElems.set_self _ _ _ q1
    obtain ⟨g1, g2⟩ := set_block hlt (.map es clock)
    refine ⟨p.2, e0.born, _, L, ?_, g2, ⟨_, _, g1, h2, h3⟩, rfl, fun w2 v hw2 => ?_⟩
    · simp [Instr.mapEntry, run_underlying hm, MapKept.run_getObj_map h1, K.ck, find_run K a c w L es.toList h2, hl, hj, q2, q3, stays_kv, hsame, MapKept.run_setObj_map _ h1, Result.andThen]
    · rw [g1] at hw2
      have hlt2 : b < w2.heap.size := (Array.getElem?_eq_some_iff.1 hw2).1
      have hidx : es.findIdx? (fun e => ((e.born : Nat) : Int) == ((e0.born : Nat) : Int)) = some p.1 := by
        rw [WideElems.findIdx_arr]
        exact WideElems.findIdx_born h3.2 q1
      have hmod : es.modify p.1 (fun e => { e with val := .int .i64 v }) = es.modify p.1 (fun e' => { e' with key := kv a c, val := .int .i64 v }) := by
        apply Array.ext'
        rw [Array.toList_modify, Array.toList_modify, ChangeMaps.modify_eq_set _ _ _ _ q1, ChangeMaps.modify_eq_set _ _ _ _ q1, ← q3]
      obtain ⟨g3, g4⟩ := set_block hlt2 (.map (es.modify p.1 (fun e' => { e' with key := kv a c, val := .int .i64 v })) clock)
      refine ⟨_, ?_, ⟨_, _, g3, by rw [Array.toList_modify]; exact (rel_put L es.toList a c v h2).2.2 p.1 p.2 hl, by rw [Array.toList_modify]; exact St.modify h3 (fun e => { e with key := kv a c, val := .int .i64 v }) (fun _ => rfl) p.1⟩, g4⟩
      simp [Instr.entryStore, MapKept.run_getObj_map hw2, asInt, asIntOf, goInt, hidx, hmod, MapKept.run_setObj_map _ hw2, Result.andThen]
end Go.Proofs.Ythnlkfcfiieddaa.Hl
