/-
  Ids that ask for rising locks: none waits in a circle. Each statement bears its own conditions.
-/
import Derived.Test.YtbnnpfhgpbaedaaLkU
import Derived.Test.YtbnnpfhgpbaedaaLkR
import Derived.Test.YtbnnpfhgpbaedaaLkG
namespace Go.Proofs.Ytbnnpfhgpbaedaa.K
open Go.RowKit
set_option linter.unusedVariables false
set_option linter.unusedSimpArgs false
/-- What holds of locks of which rising ones are asked. -/
structure Ri (ws : Nat → List (Int × Int)) (os : Int → Option Int) : Prop where
  ids : ∀ i, i < 16 → ∀ x ∈ ws i, 0 ≤ x.1 ∧ x.1 < 8
  own : ∀ i : Nat, i < 16 → ∀ o, os (i : Int) = some o → 0 ≤ o ∧ o < 8
  nd : ∀ i, i < 16 → (ws i).Pairwise fun x y => x.1 ≠ y.1
  one : ∀ i j, i < 16 → j < 16 → i ≠ j → ∀ x ∈ ws i, ∀ y ∈ ws j, x.1 ≠ y.1
  taken : ∀ i : Nat, i < 16 → ws i ≠ [] → ∃ o, os (i : Int) = some o
  ris : ∀ i, i < 16 → ∀ x ∈ ws i, ∀ j : Nat, j < 16 → os (j : Int) = some x.1 → j < i
theorem Ri.init : Ri (fun _ => []) (fun _ => none) :=
  ⟨fun i _ x hx => (by cases hx), fun i _ o h => (by cases h), fun i _ => List.Pairwise.nil, fun i j _ _ _ x hx => (by cases hx), fun i _ h => absurd rfl h, fun i _ x hx => (by cases hx)⟩
theorem put_at (os : Int → Option Int) (i : Nat) (v : Option Int) (j : Nat) : put os (i : Int) v (j : Int) = if j = i then v else os (j : Int) := by
  unfold put
  by_cases h : j = i
  · subst h; simp
  · have h2 : ¬ (j : Int) = (i : Int) := by omega
    rw [if_neg h2, if_neg h]
theorem putN_if {α : Type} (f : Nat → α) (i : Nat) (x : α) (j : Nat) : putN f i x j = if j = i then x else f j := rfl
section
variable {ws : Nat → List (Int × Int)} {os : Int → Option Int}
theorem Ri.free (h : Ri ws os) {i : Nat} {id : Int} (hi : i < 16) (hid : 0 ≤ id ∧ id < 8) (hno : NoId ws 16 id) : Ri ws (put os (i : Int) (some id)) := by
  refine ⟨h.ids, fun k hk o ho => ?_, h.nd, h.one, fun k hk hne => ?_, fun k hk x hx j hj hjo => ?_⟩
  · rw [put_at] at ho
    split at ho
    · injection ho with ho; rw [← ho]; exact hid
    · exact h.own k hk o ho
  · rw [put_at]
    split
    · exact ⟨id, rfl⟩
    · exact h.taken k hk hne
  · rw [put_at] at hjo
    split at hjo
    · injection hjo with hjo; exact absurd hjo.symm (hno k hk x hx)
    · exact h.ris k hk x hx j hj hjo
theorem Ri.gfree (h : Ri ws os) {i : Nat} (hi : i < 16) (hn : ws i = []) : Ri ws (put os (i : Int) none) := by
  refine ⟨h.ids, fun k hk o ho => ?_, h.nd, h.one, fun k hk hne => ?_, fun k hk x hx j hj hjo => ?_⟩
  · rw [put_at] at ho
    split at ho
    · cases ho
    · exact h.own k hk o ho
  · rw [put_at]
    split
    · next e => rw [e] at hne; exact absurd hn hne
    · exact h.taken k hk hne
  · rw [put_at] at hjo
    split at hjo
    · cases hjo
    · exact h.ris k hk x hx j hj hjo
theorem Ri.join (h : Ri ws os) {i : Nat} {id q : Int} (hi : i < 16) (hid : 0 ≤ id ∧ id < 8) (hno : NoId ws 16 id) (ht : ∃ o, os (i : Int) = some o) (hh : ∀ j : Nat, j < 16 → os (j : Int) = some id → j < i) : Ri (putN ws i (joinP (ws i) id q)) os := by
  have hm : ∀ k x, x ∈ putN ws i (joinP (ws i) id q) k → (k = i ∧ x = (id, q)) ∨ x ∈ ws k := fun k x hx => by
    rw [putN_if] at hx
    split at hx
    · next e =>
      rcases joinP_mem.1 hx with hx | hx
      · exact .inl ⟨e, hx⟩
      · rw [e]; exact .inr hx
    · exact .inr hx
  refine ⟨fun k hk x hx => ?_, h.own, fun k hk => ?_, fun k j hk hj hkj x hx y hy => ?_, fun k hk hne => ?_, fun k hk x hx j hj hjo => ?_⟩
  · rcases hm k x hx with ⟨_, e⟩ | hx
    · rw [e]; exact hid
    · exact h.ids k hk x hx
  · rw [putN_if]
    split
    · have hp : (joinP (ws i) id q).Perm ((id, q) :: ws i) := by
        unfold joinP
        refine List.perm_middle.trans ?_
        rw [List.take_append_drop]
      refine (hp.pairwise_iff (fun hxy => hxy.symm)).2 (List.pairwise_cons.2 ⟨fun y hy => (hno i hi y hy).symm, h.nd i hi⟩)
    · exact h.nd k hk
  · rcases hm k x hx with ⟨e1, e⟩ | hx
    · rcases hm j y hy with ⟨e2, _⟩ | hy
      · omega
      · rw [e]; exact (hno j hj y hy).symm
    · rcases hm j y hy with ⟨_, e⟩ | hy
      · rw [e]; exact hno k hk x hx
      · exact h.one k j hk hj hkj x hx y hy
  · by_cases e : k = i
    · rw [e]; exact ht
    · exact h.taken k hk (by rw [putN_if, if_neg e] at hne; exact hne)
  · rcases hm k x hx with ⟨e1, e⟩ | hx
    · rw [e1]; rw [e] at hjo; exact hh j hj hjo
    · exact h.ris k hk x hx j hj hjo
theorem Ri.next (h : Ri ws os) {i : Nat} {x : Int × Int} {L : List (Int × Int)} (hi : i < 16) (hx : ws i = x :: L) : Ri (putN ws i L) (put os (i : Int) (some x.1)) := by
  have hx0 : x ∈ ws i := by rw [hx]; exact List.mem_cons_self ..
  have hnd := h.nd i hi
  rw [hx] at hnd
  have hnd2 := List.pairwise_cons.1 hnd
  have hm : ∀ k y, y ∈ putN ws i L k → y ∈ ws k ∧ y.1 ≠ x.1 ∨ (¬ k = i ∧ y ∈ ws k) := fun k y hy => by
    rw [putN_if] at hy
    split at hy
    · next e => rw [e, hx]; exact .inl ⟨List.mem_cons_of_mem _ hy, (hnd2.1 y hy).symm⟩
    · next e => exact .inr ⟨e, hy⟩
  have hm1 : ∀ k y, y ∈ putN ws i L k → y ∈ ws k := fun k y hy => (hm k y hy).elim (·.1) (·.2)
  refine ⟨fun k hk y hy => h.ids k hk y (hm1 k y hy), fun k hk o ho => ?_, fun k hk => ?_, fun k j hk hj hkj y hy z hz => h.one k j hk hj hkj y (hm1 k y hy) z (hm1 j z hz), fun k hk hne => ?_, fun k hk y hy j hj hjo => ?_⟩
  · rw [put_at] at ho
    split at ho
    · injection ho with ho; rw [← ho]; exact h.ids i hi x hx0
    · exact h.own k hk o ho
  · rw [putN_if]
    split
    · exact hnd2.2
    · exact h.nd k hk
  · rw [put_at]
    split
    · exact ⟨_, rfl⟩
    · next e => exact h.taken k hk (by rw [putN_if, if_neg e] at hne; exact hne)
  · rw [put_at] at hjo
    split at hjo
    · injection hjo with hjo
      rcases hm k y hy with h1 | h1
      · exact absurd hjo.symm h1.2
      · exact absurd hjo.symm (h.one k i hk hi h1.1 y h1.2 x hx0)
    · exact h.ris k hk y (hm1 k y hy) j hj hjo
theorem Ri.tk (h : Ri ws os) {i : Nat} {id bs : Int} (hi : i < 16) (hid : 0 ≤ id ∧ id < 8) (hno : NoId ws 16 id) (hh : ∀ j : Nat, j < 16 → os (j : Int) = some id → j < i) : Ri (putN ws i (tkW 63 (ws i) (os (i : Int)) id bs)) (put os (i : Int) (tkO 63 (ws i) (os (i : Int)) id bs)) := by
  unfold tkW tkO
  split
  · rw [putN_id, put_id]; exact h
  split
  · rw [putN_id, put_id]; exact h
  split
  · rw [putN_id, put_id]; exact h
  split
  · rw [putN_id, put_id]; exact h
  split
  · rw [putN_id]; exact h.free hi hid hno
  · next hne =>
    rw [put_id]
    refine h.join hi hid hno ?_ hh
    cases ho : os (i : Int) with
    | none => exact absurd ho hne
    | some o => exact ⟨o, rfl⟩
theorem Ri.gv (h : Ri ws os) {i : Nat} {id : Int} (hi : i < 16) : Ri (putN ws i (gvW (ws i) (os (i : Int)) id)) (put os (i : Int) (gvO (ws i) (os (i : Int)) id)) := by
  unfold gvW gvO
  split
  · rw [putN_id, put_id]; exact h
  split
  · rw [putN_id, put_id]; exact h
  · cases hws : ws i with
    | nil =>
      have e1 : putN ws i (([] : List (Int × Int)).tail) = ws := by rw [List.tail_nil, ← hws, putN_id]
      rw [e1]; exact h.gfree hi hws
    | cons x L => exact h.next hi hws
end
/-- Locks of which rising ones were asked j times. -/
structure RX (lo j g bc bw bm N : Nat) (rb : Nat → Nat) (cs : List Int) (ws : Nat → List (Int × Int)) (os : Int → Option Int) (w : World) : Prop where
  lv : LV lo w g bc bw bm N rb cs ws os
  N : N ≤ j
  len : ∀ i, i < 16 → (ws i).length ≤ j
  ri : Ri ws os
section
variable {lo j g bc bw bm N : Nat} {rb : Nat → Nat} {cs : List Int} {ws : Nat → List (Int × Int)} {os : Int → Option Int} {w : World}
theorem RX.below {w' : World} (h : RX lo j g bc bw bm N rb cs ws os w) (hb : Below w.heap.size w w') : RX lo j g bc bw bm N rb cs ws os w' := ⟨h.lv.below hb, h.N, h.len, h.ri⟩
theorem tkW_len (ce : Int) (L : List (Int × Int)) (o : Option Int) (id bs : Int) : (tkW ce L o id bs).length ≤ L.length + 1 := by
  unfold tkW
  repeat' split
  all_goals first | omega | (rw [joinP_len]; omega)
theorem gvW_len (L : List (Int × Int)) (o : Option Int) (id : Int) : (gvW L o id).length ≤ L.length := by
  unfold gvW
  repeat' split
  all_goals first | omega | (rw [List.length_tail]; omega)
theorem RX.take (h : RX lo j g bc bw bm N rb cs ws os w) (hc : cs.length = 16) (h63 : ∀ i, i < 16 → cs.getD i 0 = 63) (hj : j ≤ 60) (i q : Nat) (bs : Int) (hi : i < 16) (hq : q < 8) (hb : 1 ≤ bs ∧ bs ≤ 63) (hh : ∀ k : Nat, k < 16 → os (k : Int) = some (q : Int) → k < i) :
    Calls Try.prog 14 #[.pointer (some ⟨g, 0, none⟩), .int .i64 (q : Int), .int .i64 bs, .int .i64 (i : Int)] w fun e w' => ∃ r rb' N' ws' os', e = .returned r ∧ RX lo (j + 1) g bc bw bm N' rb' cs ws' os' w' ∧ Below lo w w' := by
  have hl : ∀ i, i < cs.length → (ws i).length ≤ 900 := fun i hi => by have := h.len i (by omega); omega
  by_cases hno : NoId ws 16 (q : Int)
  · refine (take_eff lo g bc bw bm N rb cs ws os (q : Int) bs i w h.lv (by omega) hl (by omega) (by omega) (by have := h.N; omega) (fun k hk _ x hx => hno k (by omega) x hx)).mono ?_
    rintro e w' ⟨r, rb', N', rfl, hN, h1, h2⟩
    rw [h63 i hi] at h1
    refine ⟨r, rb', N', _, _, rfl, ⟨h1, by have := h.N; omega, fun k hk => ?_, h.ri.tk hi (by omega) hno hh⟩, h2.below h.lv⟩
    rw [putN_if]
    split
    · have := tkW_len 63 (ws i) (os (i : Int)) (q : Int) bs; have := h.len i hi; omega
    · have := h.len k hk; omega
  · refine (take_waits lo g bc bw bm N rb cs ws os (q : Int) bs i w h.lv (by omega) hl (by omega) (by omega) hb (by rw [hc]; exact hno)).mono ?_
    rintro e w' ⟨rfl, h1, h2⟩
    exact ⟨_, rb, N, ws, os, rfl, ⟨h1, by have := h.N; omega, fun k hk => by have := h.len k hk; omega, h.ri⟩, h2.below h.lv⟩
theorem RX.give (h : RX lo j g bc bw bm N rb cs ws os w) (hc : cs.length = 16) (hj : j ≤ 60) (i q : Nat) (hi : i < 16) (hq : q < 8) :
    Calls Try.prog 16 #[.pointer (some ⟨g, 0, none⟩), .int .i64 (q : Int), .int .i64 (i : Int)] w fun e w' => ∃ r rb' N' ws' os', e = .returned r ∧ RX lo (j + 1) g bc bw bm N' rb' cs ws' os' w' ∧ Below lo w w' := by
  have hl : ∀ i, i < cs.length → (ws i).length ≤ 900 := fun i hi => by have := h.len i (by omega); omega
  by_cases hno : NoId ws 16 (q : Int)
  · refine (give_eff lo g bc bw bm N rb cs ws os (q : Int) i w h.lv (by omega) hl (by omega) (by have := h.N; omega) (fun k hk _ x hx => hno k (by omega) x hx) (fun x hx => by have := h.ri.ids i hi x hx; omega)).mono ?_
    rintro e w' ⟨r, rb', N', rfl, hN, h1, h2⟩
    refine ⟨r, rb', N', _, _, rfl, ⟨h1, by have := h.N; omega, fun k hk => ?_, h.ri.gv hi⟩, h2.below h.lv⟩
    rw [putN_if]
    split
    · have := gvW_len (ws i) (os (i : Int)) (q : Int); have := h.len i hi; omega
    · have := h.len k hk; omega
  · refine (give_waits lo g bc bw bm N rb cs ws os (q : Int) i w h.lv (by omega) hl (by omega) (by rw [hc]; exact hno)).mono ?_
    rintro e w' ⟨rfl, h1, h2⟩
    exact ⟨_, rb, N, ws, os, rfl, ⟨h1, by have := h.N; omega, fun k hk => by have := h.len k hk; omega, h.ri⟩, h2.below h.lv⟩
end
/-- The last one that is held is the greatest. -/
theorem heldP_last (os : Int → Option Int) (id : Int) : ∀ n, (heldP os id n = [] ∧ ∀ j : Nat, j < n → os (j : Int) ≠ some id) ∨ (∃ k : Nat, k < n ∧ (heldP os id n).getD ((heldP os id n).length - 1) 0 = (k : Int) ∧ heldP os id n ≠ [] ∧ ∀ j : Nat, j < n → os (j : Int) = some id → j ≤ k)
  | 0 => .inl ⟨rfl, fun j hj => by omega⟩
  | n + 1 => by
    by_cases h : os (n : Int) = some id
    · refine .inr ⟨n, by omega, ?_, by simp [heldP, h], fun j hj _ => by omega⟩
      have e : heldP os id (n + 1) = heldP os id n ++ [(n : Int)] := by simp [heldP, h]
      rw [e, List.getD_eq_getElem?_getD]
      simp
    · have e : heldP os id (n + 1) = heldP os id n := by simp [heldP, h]
      rw [e]
      rcases heldP_last os id n with ⟨h1, h2⟩ | ⟨k, h1, h2, h3, h4⟩
      · refine .inl ⟨h1, fun j hj hjo => ?_⟩
        by_cases hjn : j = n
        · subst hjn; exact h hjo
        · exact h2 j (by omega) hjo
      · refine .inr ⟨k, by omega, h2, h3, fun j hj hjo => ?_⟩
        by_cases hjn : j = n
        · subst hjn; exact absurd hjo h
        · exact h4 j (by omega) hjo
/-- Whom one waits for, of the first n locks. -/
def nx (ws : Nat → List (Int × Int)) (os : Int → Option Int) (a : Int) : Nat → Int
  | 0 => -1
  | n + 1 => if inW (ws n) a then (os (n : Int)).getD 0 else nx ws os a n
theorem nx_spec (ws : Nat → List (Int × Int)) (os : Int → Option Int) (a : Int) : ∀ n, nx ws os a n = -1 ∨ ∃ i, i < n ∧ inW (ws i) a ∧ nx ws os a n = (os (i : Int)).getD 0
  | 0 => .inl rfl
  | n + 1 => by
    unfold nx
    split
    · next h => exact .inr ⟨n, by omega, h, rfl⟩
    · rcases nx_spec ws os a n with h | ⟨i, h1, h2, h3⟩
      · exact .inl h
      · exact .inr ⟨i, by omega, h2, h3⟩
theorem nd_len : ∀ (n : Nat) (S : List Int), S.Nodup → (∀ x ∈ S, 0 ≤ x ∧ x < (n : Int)) → S.length ≤ n
  | 0, S, _, h => by
    cases S with
    | nil => exact Nat.le_refl _
    | cons x L => have := h x (List.mem_cons_self ..); omega
  | n + 1, S, hn, h => by
    have h1 := nd_len n (S.erase (n : Int)) (hn.erase _) (fun x hx => by
      have hx' := hn.mem_erase_iff.1 hx
      have := h x hx'.2
      have := hx'.1
      omega)
    have h2 := List.length_erase (a := (n : Int)) (l := S)
    by_cases hm : (n : Int) ∈ S
    · rw [if_pos hm] at h2; omega
    · rw [if_neg hm] at h2; omega
/-- Whom a chain has passed. -/
structure Jn (ws : Nat → List (Int × Int)) (os : Int → Option Int) (k : Nat) (a : Int) : Prop where
  ex : ∃ (S : List Int) (m : Nat), S.length = k ∧ (a :: S).Nodup ∧ (∀ x ∈ a :: S, 0 ≤ x ∧ x < 8) ∧ (∀ s ∈ S, ∃ i, i ≤ m ∧ i < 16 ∧ inW (ws i) s) ∧ (S ≠ [] → m < 16 ∧ os (m : Int) = some a)
theorem Jn.start (ws : Nat → List (Int × Int)) (os : Int → Option Int) {a : Int} (h : 0 ≤ a ∧ a < 8) : Jn ws os 0 a :=
  ⟨[], 0, rfl, by simp, fun x hx => (by
    rcases List.mem_cons.1 hx with e | hx
    · rw [e]; exact h
    · cases hx), fun s hs => (by cases hs), fun h => absurd rfl h⟩
theorem Jn.lt {ws : Nat → List (Int × Int)} {os : Int → Option Int} {k : Nat} {a : Int} (h : Jn ws os k a) : k ≤ 7 := by
  obtain ⟨S, m, h1, h2, h3, _, _⟩ := h.ex
  have := nd_len 8 (a :: S) h2 h3
  simp at this
  omega
theorem Jn.step {ws : Nat → List (Int × Int)} {os : Int → Option Int} {k : Nat} {a : Int} (h : Jn ws os k a) (hr : Ri ws os) : nx ws os a 16 = -1 ∨ (0 ≤ nx ws os a 16 ∧ Jn ws os (k + 1) (nx ws os a 16)) := by
  rcases nx_spec ws os a 16 with h1 | ⟨n, hn, hw, h1⟩
  · exact .inl h1
  · right
    obtain ⟨z, hz, hza⟩ := hw
    obtain ⟨o, ho⟩ := hr.taken n hn (fun e => by rw [e] at hz; cases hz)
    rw [ho] at h1
    have h1 : nx ws os a 16 = o := h1
    rw [h1]
    have hob := hr.own n hn o ho
    refine ⟨hob.1, ?_⟩
    obtain ⟨S, m, e1, e2, e3, e4, e5⟩ := h.ex
    have hmn : S ≠ [] → m < n := fun hs => hr.ris n hn z hz m (e5 hs).1 (by rw [hza]; exact (e5 hs).2)
    refine ⟨a :: S, n, by simp [e1], ?_, fun x hx => ?_, fun s hs => ?_, fun _ => ⟨hn, ho⟩⟩
    · refine List.nodup_cons.2 ⟨fun hmem => ?_, e2⟩
      rcases List.mem_cons.1 hmem with e | hs
      · have := hr.ris n hn z hz n hn (by rw [hza, ← e]; exact ho)
        omega
      · obtain ⟨i, hi1, hi2, y, hy, hyo⟩ := e4 o hs
        have hs0 : S ≠ [] := fun e => by rw [e] at hs; cases hs
        have h5 := hmn hs0
        have := hr.ris i hi2 y hy n hn (by rw [hyo]; exact ho)
        omega
    · rcases List.mem_cons.1 hx with e | hx
      · rw [e]; exact hob
      · exact e3 x hx
    · rcases List.mem_cons.1 hs with e | hs
      · rw [e]; exact ⟨n, Nat.le_refl _, hn, z, hz, hza⟩
      · obtain ⟨i, hi1, hi2, hi3⟩ := e4 s hs
        have hs0 : S ≠ [] := fun e => by rw [e] at hs; cases hs
        have := hmn hs0
        exact ⟨i, by omega, hi2, hi3⟩
/-- Within a list. -/
def ny (ws : Nat → List (Int × Int)) (os : Int → Option Int) (a : Int) (n y : Nat) : Int := if a ∈ (idsP (ws n)).take y then (os (n : Int)).getD 0 else nx ws os a n
theorem ny_zero (ws : Nat → List (Int × Int)) (os : Int → Option Int) (a : Int) (n : Nat) : ny ws os a n 0 = nx ws os a n := by simp [ny]
theorem ny_all (ws : Nat → List (Int × Int)) (os : Int → Option Int) (a : Int) (n : Nat) : ny ws os a n (idsP (ws n)).length = nx ws os a (n + 1) := by
  show (if a ∈ (idsP (ws n)).take (idsP (ws n)).length then (os (n : Int)).getD 0 else nx ws os a n) = if inW (ws n) a then (os (n : Int)).getD 0 else nx ws os a n
  rw [List.take_length]
  have : a ∈ idsP (ws n) ↔ inW (ws n) a := by unfold idsP inW; simp [List.mem_map]
  by_cases h : inW (ws n) a
  · rw [if_pos h, if_pos (this.2 h)]
  · rw [if_neg h, if_neg (fun e => h (this.1 e))]
theorem ny_step (ws : Nat → List (Int × Int)) (os : Int → Option Int) (a : Int) (n y : Nat) (hy : y < (idsP (ws n)).length) : ny ws os a n (y + 1) = if (idsP (ws n)).getD y 0 = a then (os (n : Int)).getD 0 else ny ws os a n y := by
  unfold ny
  have e : (idsP (ws n)).take (y + 1) = (idsP (ws n)).take y ++ [(idsP (ws n)).getD y 0] := by
    rw [List.take_succ_eq_append_getElem hy, List.getD_eq_getElem?_getD, List.getElem?_eq_getElem hy]; rfl
  rw [e]
  by_cases h : (idsP (ws n)).getD y 0 = a
  · rw [if_pos h, if_pos (List.mem_append.2 (.inr (List.mem_singleton.2 h.symm)))]
  · rw [if_neg h]
    have : a ∈ (idsP (ws n)).take y ++ [(idsP (ws n)).getD y 0] ↔ a ∈ (idsP (ws n)).take y := by
      rw [List.mem_append, List.mem_singleton]
      exact ⟨fun h1 => h1.elim id fun e => absurd e.symm h, .inl⟩
    simp only [this]
end Go.Proofs.Ytbnnpfhgpbaedaa.K
