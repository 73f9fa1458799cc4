/-
  For LockDrop: Take of any id, any lock, any priority; who leaves; who is first. Each statement bears its own conditions.
-/
import Derived.Test.YtbnnpfhgpbaedaaLkV
import Derived.Test.YtbnnpfhgpbaedaaLkY
namespace Go.Proofs.Ytbnnpfhgpbaedaa.K
open Go.RowKit
open Go.ChangeShapes Go.WideShapes Go.ChangeAt
set_option linter.unusedVariables false
set_option linter.unusedSimpArgs false
/-- Each id waits at most once, and every one that waits is a number. -/
structure Un (n : Nat) (ws : Nat → List (Int × Int)) : Prop where
  nd : ∀ i, i < n → (ws i).Pairwise fun x y => x.1 ≠ y.1
  one : ∀ i j, i < n → j < n → i ≠ j → ∀ x ∈ ws i, ∀ y ∈ ws j, x.1 ≠ y.1
  wf : ∀ i, i < n → ∀ x ∈ ws i, (Lit.int .i64 x.1).wf = true ∧ 0 ≤ x.1
theorem Un.init (n : Nat) : Un n fun _ => [] := ⟨fun i _ => List.Pairwise.nil, fun i j _ _ _ x hx => (by cases hx), fun i _ x hx => (by cases hx)⟩
theorem Un.join {n : Nat} {ws : Nat → List (Int × Int)} (h : Un n ws) {i : Nat} {id q : Int} (hi : i < n) (hwf : (Lit.int .i64 id).wf = true ∧ 0 ≤ id) (hno : NoId ws n id) : Un n (putN ws i (joinP (ws i) id q)) := by
  have hm : ∀ k x, x ∈ putN ws i (joinP (ws i) id q) k → (k = i ∧ x = (id, q)) ∨ x ∈ ws k := fun k x hx => by
    rw [putN_if] at hx
    split at hx
    · next e =>
      rcases joinP_mem.1 hx with hx | hx
      · exact .inl ⟨e, hx⟩
      · rw [e]; exact .inr hx
    · exact .inr hx
  refine ⟨fun k hk => ?_, fun k j hk hj hkj x hx y hy => ?_, fun k hk x hx => ?_⟩
  · rw [putN_if]
    split
    · have hp : (joinP (ws i) id q).Perm ((id, q) :: ws i) := by
        unfold joinP
        refine List.perm_middle.trans ?_
        rw [List.take_append_drop]
      refine (hp.pairwise_iff (fun hxy => hxy.symm)).2 (List.pairwise_cons.2 ⟨fun y hy => (hno i hi y hy).symm, h.nd i hi⟩)
    · exact h.nd k hk
  · rcases hm k x hx with ⟨e1, e⟩ | hx
    · rcases hm j y hy with ⟨e2, _⟩ | hy
      · omega
      · rw [e]; exact (hno j hj y hy).symm
    · rcases hm j y hy with ⟨_, e⟩ | hy
      · rw [e]; exact hno k hk x hx
      · exact h.one k j hk hj hkj x hx y hy
  · rcases hm k x hx with ⟨_, e⟩ | hx
    · rw [e]; exact hwf
    · exact h.wf k hk x hx
/-- Locks of which anything was asked j times; none was given. -/
structure UX (lo j g bc bw bm N : Nat) (rb : Nat → Nat) (cs : List Int) (ws : Nat → List (Int × Int)) (os : Int → Option Int) (w : World) : Prop where
  lv : LV lo w g bc bw bm N rb cs ws os
  N : N ≤ j
  len : ∀ i, i < cs.length → (ws i).length ≤ j
  un : Un cs.length ws
  own : ∀ i : Nat, i < cs.length → ∀ o, os (i : Int) = some o → 0 ≤ o
theorem UX.below {lo j g bc bw bm N : Nat} {rb : Nat → Nat} {cs : List Int} {ws : Nat → List (Int × Int)} {os : Int → Option Int} {w w' : World} (h : UX lo j g bc bw bm N rb cs ws os w) (hb : Below w.heap.size w w') : UX lo j g bc bw bm N rb cs ws os w' := ⟨h.lv.below hb, h.N, h.len, h.un, h.own⟩
theorem UX.mono {lo j g bc bw bm N : Nat} {rb : Nat → Nat} {cs : List Int} {ws : Nat → List (Int × Int)} {os : Int → Option Int} {w : World} (h : UX lo j g bc bw bm N rb cs ws os w) : UX lo (j + 1) g bc bw bm N rb cs ws os w := ⟨h.lv, Nat.le_succ_of_le h.N, fun i hi => Nat.le_succ_of_le (h.len i hi), h.un, h.own⟩
theorem UX.take {lo j g bc bw bm N : Nat} {rb : Nat → Nat} {cs : List Int} {ws : Nat → List (Int × Int)} {os : Int → Option Int} {w : World} (h : UX lo j g bc bw bm N rb cs ws os w) (hn : cs.length ≤ 16) (hj : j ≤ 40) (id bs l : Int) (hwf : (Lit.int .i64 id).wf = true) :
    Calls Try.prog 14 #[.pointer (some ⟨g, 0, none⟩), .int .i64 id, .int .i64 bs, .int .i64 l] w fun e w' => ∃ r rb' N' ws' os', e = .returned r ∧ UX lo (j + 1) g bc bw bm N' rb' cs ws' os' w' ∧ Below lo w w' := by
  have hb : Below lo w w := by
    have := h.lv.low.1; have := h.lv.lt.1
    exact (Below.refl _ _).mono (by omega)
  have hl : ∀ i, i < cs.length → (ws i).length ≤ 900 := fun i hi => by have := h.len i hi; omega
  by_cases h0 : 0 ≤ id
  rotate_left
  · refine (take_neg g id bs l w (by omega)).mono ?_
    rintro e w' ⟨rfl, rfl⟩
    exact ⟨_, rb, N, ws, os, rfl, h.mono, hb⟩
  by_cases hp : 1 ≤ bs ∧ bs ≤ 63
  rotate_left
  · refine (take_prio g id bs l w h0 hp).mono ?_
    rintro e w' ⟨rfl, rfl⟩
    exact ⟨_, rb, N, ws, os, rfl, h.mono, hb⟩
  by_cases hlr : 0 ≤ l ∧ l < cs.length
  rotate_left
  · refine (take_lost lo g bc bw bm N rb cs ws os id bs l w h.lv h0 hp hlr).mono ?_
    rintro e w' ⟨rfl, rfl⟩
    exact ⟨_, rb, N, ws, os, rfl, h.mono, hb⟩
  obtain ⟨i, hi⟩ : ∃ i : Nat, l = (i : Int) := ⟨l.toNat, by omega⟩
  subst hi
  have hil : i < cs.length := by omega
  by_cases hno : NoId ws cs.length id
  rotate_left
  · refine (take_waits lo g bc bw bm N rb cs ws os id bs i w h.lv hn hl hil h0 hp hno).mono ?_
    rintro e w' ⟨rfl, h1, h2⟩
    exact ⟨_, rb, N, ws, os, rfl, ⟨h1, h.mono.N, h.mono.len, h.un, h.own⟩, h2.below h.lv⟩
  by_cases hown : os (i : Int) = some id
  · refine (take_twice lo g bc bw bm N rb cs ws os id bs i w h.lv hn hl hil h0 hp hno hown).mono ?_
    rintro e w' ⟨rfl, h1, h2⟩
    exact ⟨_, rb, N, ws, os, rfl, ⟨h1, h.mono.N, h.mono.len, h.un, h.own⟩, h2.below h.lv⟩
  by_cases hce : bs ≤ cs.getD i 0
  rotate_left
  · refine (take_rights lo g bc bw bm N rb cs ws os id bs i w h.lv hn hl hil h0 hp hno hown (by omega)).mono ?_
    rintro e w' ⟨rfl, h1, h2⟩
    exact ⟨_, rb, N, ws, os, rfl, ⟨h1, h.mono.N, h.mono.len, h.un, h.own⟩, h2.below h.lv⟩
  cases hos : os (i : Int) with
  | none =>
    refine (take_free lo g bc bw bm N rb cs ws os id bs i w h.lv hn hl hil h0 hp hno hwf (by have := h.N; unfold maxLen; omega) hos hce).mono ?_
    rintro e w' ⟨rfl, h1, h2⟩
    exact ⟨_, rb, N + 1, ws, _, rfl, ⟨h1, by have := h.N; omega, h.mono.len, h.un, fun k hk o ho => by
      rw [put_at] at ho
      split at ho
      · injection ho with ho; omega
      · exact h.own k hk o ho⟩, h2.below h.lv⟩
  | some o =>
    refine (take_joins lo g bc bw bm N rb cs ws os id bs i w h.lv hn hl hil h0 hp hno o hos (fun e => hown (by rw [hos, e])) hce).mono ?_
    rintro e w' ⟨rfl, rb', h1, h2⟩
    refine ⟨_, _, N, _, os, rfl, ⟨h1, h.mono.N, fun k hk => ?_, h.un.join hil ⟨hwf, h0⟩ hno, h.own⟩, h2.below h.lv⟩
    rw [putN_if]
    split
    · rw [joinP_len]; have := h.len i hil; omega
    · exact h.mono.len k hk
/-- Who leaves is nowhere, and the others stay as they are. -/
theorem LvR.filter {ws ws1 : Nat → List (Int × Int)} {n : Nat} {id : Int} (h : LvR ws n id ws1) (u : Un n ws) : ∀ k, k < n → ws1 k = (ws k).filter fun x => decide (x.1 ≠ id) := by
  intro k hk
  have hall : ∀ L : List (Int × Int), (∀ x ∈ L, x.1 ≠ id) → L.filter (fun x => decide (x.1 ≠ id)) = L := fun L hL => List.filter_eq_self.2 fun x hx => by simpa using hL x hx
  rcases h with ⟨hno, rfl⟩ | ⟨i, j, hf, rfl⟩
  · exact (hall _ (hno k hk)).symm
  · rcases hf with ⟨hb, _⟩ | ⟨_, hi, hj, hx, hlow, _⟩
    · cases hb
    have hxe : (ws i).getD j (0, 0) = (ws i)[j] := by rw [List.getD_eq_getElem?_getD, List.getElem?_eq_getElem hj]; rfl
    rw [hxe] at hx
    have hmem : (ws i)[j] ∈ ws i := List.getElem_mem hj
    by_cases hki : k = i
    · subst hki
      rw [putN_at]
      have hsp : ws k = (ws k).take j ++ (ws k)[j] :: (ws k).drop (j + 1) := by
        rw [List.getElem_cons_drop, List.take_append_drop]
      have hnd := u.nd k hi
      rw [hsp] at hnd
      have h1 := (List.pairwise_append.1 hnd).2.1
      have h2 := (List.pairwise_cons.1 h1).1
      have h3 := (List.pairwise_append.1 hnd).2.2
      have e1 := hall ((ws k).take j) (fun y hy => by have := h3 y hy _ (List.mem_cons_self ..); rw [hx] at this; exact this)
      have e2 := hall ((ws k).drop (j + 1)) (fun y hy => by have := h2 y hy; rw [hx] at this; exact this.symm)
      refine Eq.trans ?_ (congrArg (List.filter fun x : Int × Int => decide (x.1 ≠ id)) hsp).symm
      rw [List.filter_append, List.filter_cons, e1, e2]
      simp [hx]
    · rw [putN_ne _ _ hki]
      exact (hall _ (fun y hy => by have := u.one k i hk hi hki y hy _ hmem; rw [hx] at this; exact this)).symm
/-- The first of a list that is another one, or -1. -/
def hdx (id : Int) : List Int → Int
  | [] => -1
  | x :: L => if x ≠ id then x else hdx id L
theorem hdx_filter (id : Int) : ∀ L : List (Int × Int), hdx id (idsP L) = match (L.filter fun x => decide (x.1 ≠ id)).head? with | some x => x.1 | none => -1
  | [] => rfl
  | x :: L => by
    have ih := hdx_filter id L
    show (if x.1 ≠ id then x.1 else hdx id (idsP L)) = _
    by_cases h : x.1 = id
    · rw [if_neg (not_not_intro h), ih, List.filter_cons]; simp [h]
    · rw [if_pos h, List.filter_cons]; simp [h]
theorem hdx_step (id : Int) (L : List Int) (k : Nat) (hk : k < L.length) : hdx id (L.drop k) = if L.getD k 0 ≠ id then L.getD k 0 else hdx id (L.drop (k + 1)) := by
  have e : L.drop k = L.getD k 0 :: L.drop (k + 1) := by
    rw [List.getD_eq_getElem?_getD, List.getElem?_eq_getElem hk]
    exact (List.getElem_cons_drop (h := hk)).symm
  rw [e]; rfl
def RK2 (x : AC) (cs : List Value) : Prop := cs = [.int .i64 x.d, .int .i64 x.id, .int .i64 x.b, .int .i64 x.l] ∧ (Lit.int .i64 x.id).wf = true
set_option maxHeartbeats 2000000 in
theorem open_K2 {H : Type} {enc : TypeId × Value → H} {W : World} {base : Nat} {held : Bool} (n : Nat) (cs : List Value) (y : DataW H × List MemPlace) (hl : cs.length = 4) (h : DataW.trod enc Try.prog W base (fun _ => true) held n 36 cs = some y) (hw : ∀ n ∈ y.1.weights Try.prog 36, n ≤ reachBytes) : ∃ x : AC, RK2 x cs := by
  obtain ⟨x, hx⟩ := open_K n cs y hl h hw
  refine ⟨x, hx, ?_⟩
  obtain ⟨n', hf⟩ := evfield_of Try.underlying36 h hw
  obtain ⟨w1, g1, k1⟩ := hf 1 _ rfl
  have hx : cs = [.int .i64 x.d, .int .i64 x.id, .int .i64 x.b, .int .i64 x.l] := hx
  subst hx
  replace g1 : DataW.trod enc Try.prog W base (fun _ => true) held n' 3 [.int .i64 x.id] = some w1 := by simpa [show Try.prog.cellsOf 3 = 1 by kernel_rfl] using g1
  obtain ⟨z1, e1, _, f1⟩ := DataW.trod_int Try.underlying3 g1
  injection e1 with e1
  injection e1 with _ e1
  subst e1
  exact f1
/-- What a function gives for the first numbers. -/
def lst (f : Nat → Int) : Nat → List Int
  | 0 => []
  | n + 1 => lst f n ++ [f n]
theorem lst_len (f : Nat → Int) : ∀ n, (lst f n).length = n
  | 0 => rfl
  | n + 1 => by show (lst f n ++ [f n]).length = n + 1; rw [List.length_append, lst_len f n]; rfl
theorem lst_get (f : Nat → Int) : ∀ n k, k < n → (lst f n).getD k 0 = f k
  | 0, k, h => by omega
  | n + 1, k, h => by
    show (lst f n ++ [f n]).getD k 0 = f k
    rw [List.getD_eq_getElem?_getD]
    by_cases hk : k = n
    · subst hk
      rw [List.getElem?_append_right (by rw [lst_len]; exact Nat.le_refl _), lst_len]; simp
    · rw [List.getElem?_append_left (by rw [lst_len]; omega), ← List.getD_eq_getElem?_getD]
      exact lst_get f n k (by omega)
/-- An owner, or -1. -/
def ownV (os : Int → Option Int) (k : Nat) : Int := match os (k : Int) with | some o => o | none => -1
/-- The first other one who waits, or -1. -/
def fstV (ws : Nat → List (Int × Int)) (id : Int) (k : Nat) : Int := hdx id (idsP (ws k))
theorem held_mem (os : Int → Option Int) (id : Int) (k : Nat) : ∀ n, (k : Int) ∈ heldP os id n ↔ k < n ∧ os (k : Int) = some id
  | 0 => by simp [heldP]
  | n + 1 => by
    unfold heldP
    rw [List.mem_append, held_mem os id k n]
    by_cases h : os (n : Int) = some id
    · rw [if_pos h, List.mem_singleton]
      constructor
      · rintro (⟨h1, h2⟩ | h1)
        · exact ⟨by omega, h2⟩
        · have : k = n := by omega
          subst this; exact ⟨by omega, h⟩
      · rintro ⟨h1, h2⟩
        by_cases e : k = n
        · right; omega
        · left; exact ⟨by omega, h2⟩
    · rw [if_neg h]
      constructor
      · rintro (⟨h1, h2⟩ | h1)
        · exact ⟨by omega, h2⟩
        · cases h1
      · rintro ⟨h1, h2⟩
        left
        refine ⟨?_, h2⟩
        by_cases e : k = n
        · subst e; exact absurd h2 h
        · omega
theorem held_nil {os : Int → Option Int} {id : Int} : ∀ n, (∀ k : Nat, k < n → os (k : Int) ≠ some id) → heldP os id n = []
  | 0, _ => rfl
  | n + 1, h => by
    unfold heldP
    rw [held_nil n (fun k hk => h k (by omega)), if_neg (h n (by omega))]; rfl
/-- Who owns a lock behind Drop. -/
theorem own_after {ws ws1 : Nat → List (Int × Int)} {os : Int → Option Int} {n : Nat} {id : Int} (h : LvR ws n id ws1) (u : Un n ws) (k : Nat) (hk : k < n) :
    ownV (osD ws1 os (heldP os id n)) k = if os (k : Int) = some id then fstV ws id k else ownV os k := by
  unfold ownV osD
  by_cases ho : os (k : Int) = some id
  · have hm := (held_mem os id k n).2 ⟨hk, ho⟩
    rw [if_pos hm, if_pos ho]
    unfold fstV
    rw [hdx_filter, ← h.filter u k hk, Int.toNat_natCast]
    cases ws1 k <;> rfl
  · have hm : ¬ (k : Int) ∈ heldP os id n := fun e => ho ((held_mem os id k n).1 e).2
    rw [if_neg hm, if_neg ho]
theorem none_after {ws ws1 : Nat → List (Int × Int)} {os : Int → Option Int} {n : Nat} {id : Int} (h : LvR ws n id ws1) (u : Un n ws) : ∀ k : Nat, k < n → osD ws1 os (heldP os id n) (k : Int) ≠ some id := fun k hk e => by
  unfold osD at e
  split at e
  · rw [Int.toNat_natCast, h.filter u k hk] at e
    cases hf : (ws k).filter fun x => decide (x.1 ≠ id) with
    | nil => rw [hf] at e; cases e
    | cons y L =>
      rw [hf] at e
      have hy : y ∈ (ws k).filter fun x => decide (x.1 ≠ id) := by rw [hf]; exact List.mem_cons_self ..
      have := (List.mem_filter.1 hy).2
      simp at this
      injection e with e
      exact this e
  · next hm => exact hm ((held_mem os id k n).2 ⟨hk, e⟩)
theorem noId_after {ws ws1 : Nat → List (Int × Int)} {n : Nat} {id : Int} (h : LvR ws n id ws1) (u : Un n ws) (S : List Int) : NoId (wsD ws1 S) n id := fun k hk x hx => by
  have hx1 : x ∈ ws1 k := by
    unfold wsD at hx
    split at hx
    · exact List.mem_of_mem_tail hx
    · exact hx
  rw [h.filter u k hk] at hx1
  have := (List.mem_filter.1 hx1).2
  simpa using this
end Go.Proofs.Ytbnnpfhgpbaedaa.K
