/-
  The reference's list as the lines' flat. Each statement bears its own conditions.
-/
import Derived.Test.YtbkjcjkbicaibaaRef2
namespace Go.Proofs.Ytbkjcjkbicaibaa
open Go.RowKit
set_option linter.unusedVariables false
set_option linter.unusedSimpArgs false
def tg (p : Nat) (l : List Int) : List (Int × Int) := l.map (fun x => (x, (p : Int)))
def fp (X : Nat → List Int) : Nat → List (Int × Int)
  | 0 => []
  | j + 1 => fp X j ++ tg (63 - j) (X (63 - j))
def flP (X : Nat → List Int) : List (Int × Int) := fp X 64
theorem tg_fst (p : Nat) (l : List Int) : (tg p l).map (fun y => y.1) = l := by
  induction l with
  | nil => rfl
  | cons x l ih => simp only [tg, List.map_cons] at ih ⊢; rw [ih]
theorem fp_fst (X : Nat → List Int) : ∀ j, (fp X j).map (fun y => y.1) = af X j := by
  intro j
  induction j with
  | zero => rfl
  | succ j ih => simp only [fp, af, List.map_append, ih, tg_fst]
theorem fl_fst (X : Nat → List Int) : (flP X).map (fun y => y.1) = allL X := fp_fst X 64
theorem fl_len (X : Nat → List Int) : (flP X).length = (allL X).length := by rw [← fl_fst, List.length_map]
theorem fp_mem (X : Nat → List Int) : ∀ j, j ≤ 64 → ∀ y, y ∈ fp X j ↔ ∃ q : Nat, q < 64 ∧ 64 ≤ q + j ∧ y.2 = (q : Int) ∧ y.1 ∈ X q := by
  intro j
  induction j with
  | zero => intro _ y; constructor
            · intro h; cases h
            · rintro ⟨q, h1, h2, _⟩; omega
  | succ j ih =>
    intro hj y
    simp only [fp, List.mem_append, ih (by omega) y]
    constructor
    · rintro (⟨q, h1, h2, h3, h4⟩ | h)
      · exact ⟨q, h1, by omega, h3, h4⟩
      · obtain ⟨x, hx, rfl⟩ := List.mem_map.1 h
        exact ⟨63 - j, by omega, by omega, rfl, hx⟩
    · rintro ⟨q, h1, h2, h3, h4⟩
      by_cases e : q = 63 - j
      · subst e
        exact .inr (List.mem_map.2 ⟨y.1, h4, by rw [← h3]⟩)
      · exact .inl ⟨q, h1, by omega, h3, h4⟩
theorem fl_mem {X : Nat → List Int} {y : Int × Int} : y ∈ flP X ↔ ∃ q : Nat, q < 64 ∧ y.2 = (q : Int) ∧ y.1 ∈ X q := by
  unfold flP
  rw [fp_mem X 64 (Nat.le_refl _)]
  constructor
  · rintro ⟨q, h1, _, h3, h4⟩; exact ⟨q, h1, h3, h4⟩
  · rintro ⟨q, h1, h3, h4⟩; exact ⟨q, h1, by omega, h3, h4⟩
theorem fp_same {X Y : Nat → List Int} : ∀ j, j ≤ 64 → (∀ q, q < 64 → 64 ≤ q + j → X q = Y q) → fp X j = fp Y j := by
  intro j
  induction j with
  | zero => intro _ _; rfl
  | succ j ih => intro hj h; simp only [fp]; rw [ih (by omega) (fun q h1 h2 => h q h1 (by omega)), h (63 - j) (by omega) (by omega)]
/-- What comes behind the first j. -/
def bp (X : Nat → List Int) (j : Nat) : Nat → List (Int × Int)
  | 0 => []
  | d + 1 => bp X j d ++ tg (63 - (j + d)) (X (63 - (j + d)))
theorem fp_bp (X : Nat → List Int) (j : Nat) : ∀ d, fp X (j + d) = fp X j ++ bp X j d := by
  intro d
  induction d with
  | zero => simp [bp]
  | succ d ih => rw [← Nat.add_assoc]; simp only [fp, bp, ih, List.append_assoc]
theorem bp_same {X Y : Nat → List Int} (j : Nat) : ∀ d, j + d ≤ 64 → (∀ q, q + j < 64 → X q = Y q) → bp X j d = bp Y j d := by
  intro d
  induction d with
  | zero => intro _ _; rfl
  | succ d ih => intro hj h; simp only [bp]; rw [ih (by omega) h, h (63 - (j + d)) (by omega)]
theorem bp_mem (X : Nat → List Int) (j : Nat) : ∀ d, j + d ≤ 64 → ∀ y ∈ bp X j d, y.2 < 64 - (j : Int) := by
  intro d
  induction d with
  | zero => intro _ y h; cases h
  | succ d ih =>
    intro hj y h
    rcases List.mem_append.1 h with h | h
    · exact ih (by omega) y h
    · obtain ⟨x, _, rfl⟩ := List.mem_map.1 h
      simp; omega
theorem fl_split (X : Nat → List Int) {p : Nat} (hp : p < 64) : ∃ H T, (∀ l, flP (upd X p l) = H ++ (tg p l ++ T)) ∧ (∀ y ∈ H, (p : Int) < y.2) ∧ (∀ y ∈ T, y.2 < (p : Int)) := by
  refine ⟨fp X (63 - p), bp X (64 - p) p, fun l => ?_, fun y hy => ?_, fun y hy => ?_⟩
  · have e : flP (upd X p l) = fp (upd X p l) ((63 - p + 1) + p) := by unfold flP; congr 1; omega
    rw [e, fp_bp]
    simp only [fp]
    rw [show 63 - (63 - p) = p by omega, upd_same, List.append_assoc, show 63 - p + 1 = 64 - p by omega,
      fp_same (X := upd X p l) (Y := X) (63 - p) (by omega) (fun q h1 h2 => upd_other _ _ (by omega)), bp_same (X := upd X p l) (Y := X) (64 - p) p (by omega) (fun q h => upd_other _ _ (by omega))]
  · obtain ⟨q, h1, h2, h3, _⟩ := (fp_mem X _ (by omega) y).1 hy
    omega
  · have := bp_mem X (64 - p) p (by omega) y hy
    omega
theorem fl_self (X : Nat → List Int) {p : Nat} {H T : List (Int × Int)} (h : ∀ l, flP (upd X p l) = H ++ (tg p l ++ T)) : flP X = H ++ (tg p (X p) ++ T) := by
  have := h (X p); rwa [upd_self] at this
theorem ins_at {A B m' : List (Int × Int)} {x : Int × Int} {ah : Bool} (h : InsR (A ++ B) x ah m') (hA : ∀ y ∈ A, bef x.2 ah y = false) (hB : ∀ y ∈ B, bef x.2 ah y = true) : m' = A ++ x :: B := by
  obtain ⟨i, hi, rfl, h1, h2⟩ := h
  have hmA : ∀ k, k < A.length → (A ++ B).getD k (0, 0) ∈ A := fun k hk => by
    rw [List.getD_eq_getElem?_getD, List.getElem?_append_left hk, List.getElem?_eq_getElem hk]; exact List.getElem_mem _
  have hmB : ∀ k, A.length ≤ k → k < (A ++ B).length → (A ++ B).getD k (0, 0) ∈ B := fun k hk hk2 => by
    have h3 : k - A.length < B.length := by rw [List.length_append] at hk2; omega
    rw [List.getD_eq_getElem?_getD, List.getElem?_append_right hk, List.getElem?_eq_getElem h3]; exact List.getElem_mem _
  have hia : i = A.length := by
    rcases Nat.lt_trichotomy i A.length with h | h | h
    · have a := hA _ (hmA i h)
      have b := h2 (by rw [List.length_append]; omega)
      rw [a] at b; cases b
    · exact h
    · have a := hB _ (hmB A.length (Nat.le_refl _) (by omega))
      rw [h1 A.length h] at a; cases a
  subst hia
  rw [List.take_left', List.drop_left'] <;> rfl
theorem ins_back {X : Nat → List Int} {id : Int} {p : Nat} {m' : List (Int × Int)} (hp : p < 64) (h : InsR (flP X) (id, (p : Int)) false m') : m' = flP (upd X p (X p ++ [id])) := by
  obtain ⟨H, T, hs, hH, hT⟩ := fl_split X hp
  rw [fl_self X hs, ← List.append_assoc] at h
  rw [hs, ins_at h]
  · simp [tg]
  · intro y hy
    unfold bef
    rcases List.mem_append.1 hy with hy | hy
    · have := hH y hy; simp; omega
    · obtain ⟨x, _, rfl⟩ := List.mem_map.1 hy
      simp
  · intro y hy
    have := hT y hy
    unfold bef; simp; omega
theorem ins_front {X : Nat → List Int} {id : Int} {p : Nat} {m' : List (Int × Int)} (hp : p < 64) (h : InsR (flP X) (id, (p : Int)) true m') : m' = flP (upd X p (id :: X p)) := by
  obtain ⟨H, T, hs, hH, hT⟩ := fl_split X hp
  rw [fl_self X hs] at h
  rw [hs, ins_at h]
  · simp [tg]
  · intro y hy
    have := hH y hy
    unfold bef; simp; omega
  · intro y hy
    unfold bef
    rcases List.mem_append.1 hy with hy | hy
    · obtain ⟨x, _, rfl⟩ := List.mem_map.1 hy
      simp
    · have := hT y hy; simp; omega
attribute [irreducible] flP
/-- No id twice. -/
structure Okk (X : Nat → List Int) : Prop where
  nd : ∀ q, q < 64 → (X q).Nodup
  dj : ∀ q q', q < 64 → q' < 64 → ∀ x, x ∈ X q → x ∈ X q' → q = q'
theorem Okk.start : Okk (fun _ => []) := ⟨fun _ _ => List.nodup_nil, fun _ _ _ _ x hx => by cases hx⟩
theorem Okk.upd {X : Nat → List Int} (h : Okk X) {p : Nat} {l : List Int} (hp : p < 64) (hn : l.Nodup) (hl : ∀ x ∈ l, x ∈ X p ∨ ∀ q, q < 64 → x ∉ X q) : Okk (upd X p l) := by
  refine ⟨fun q hq => ?_, fun q q' hq hq' x hx hx' => ?_⟩
  · by_cases e : q = p
    · subst e; rw [upd_same]; exact hn
    · rw [upd_other _ _ e]; exact h.nd q hq
  · by_cases e : q = p
    · by_cases e' : q' = p
      · omega
      · subst e
        rw [upd_same] at hx
        rw [upd_other _ _ e'] at hx'
        rcases hl x hx with a | a
        · exact h.dj _ _ hq hq' x a hx'
        · exact absurd hx' (a q' hq')
    · by_cases e' : q' = p
      · subst e'
        rw [upd_same] at hx'
        rw [upd_other _ _ e] at hx
        rcases hl x hx' with a | a
        · exact h.dj _ _ hq hq' x hx a
        · exact absurd hx (a q hq)
      · rw [upd_other _ _ e] at hx
        rw [upd_other _ _ e'] at hx'
        exact h.dj _ _ hq hq' x hx hx'
theorem Okk.put {X : Nat → List Int} (h : Okk X) (id pr : Int) : Okk (putL X id pr) := by
  unfold putL
  split
  · rename_i hr
    obtain ⟨_, h2, h3, h4⟩ := rfz_ok hr
    have hno := hasL_not.1 h4
    have hp : pr.toNat < 64 := by omega
    refine h.upd hp ?_ ?_
    · rw [List.nodup_append]
      exact ⟨h.nd _ hp, by simp, fun a ha b hb e => hno _ hp (by rw [← List.mem_singleton.1 hb, ← e]; exact ha)⟩
    · intro x hx
      rcases List.mem_append.1 hx with hx | hx
      · exact .inl hx
      · rw [List.mem_singleton.1 hx]; exact .inr hno
  · exact h
theorem Okk.front {X : Nat → List Int} (h : Okk X) (id pr : Int) : Okk (frontL X id pr) := by
  unfold frontL
  split
  · rename_i hr
    obtain ⟨_, h2, h3, h4⟩ := rfz_ok hr
    have hno := hasL_not.1 h4
    have hp : pr.toNat < 64 := by omega
    refine h.upd hp ?_ ?_
    · exact List.nodup_cons.2 ⟨hno _ hp, h.nd _ hp⟩
    · intro x hx
      rcases List.mem_cons.1 hx with hx | hx
      · rw [hx]; exact .inr hno
      · exact .inl hx
  · exact h
theorem found {X : Nat → List Int} {id : Int} : (∃ k, k < (flP X).length ∧ ((flP X).getD k (0, 0)).1 = id) ↔ ∃ q, q < 64 ∧ id ∈ X q := by
  constructor
  · rintro ⟨k, hk, he⟩
    have hm : (flP X).getD k (0, 0) ∈ flP X := by
      rw [List.getD_eq_getElem?_getD, List.getElem?_eq_getElem hk]; exact List.getElem_mem _
    obtain ⟨q, h1, _, h3⟩ := fl_mem.1 hm
    exact ⟨q, h1, by rw [← he]; exact h3⟩
  · rintro ⟨q, hq, hm⟩
    have : (id, (q : Int)) ∈ flP X := fl_mem.2 ⟨q, hq, rfl, hm⟩
    obtain ⟨k, hk, he⟩ := List.getElem_of_mem this
    exact ⟨k, hk, by rw [List.getD_eq_getElem?_getD, List.getElem?_eq_getElem hk, Option.getD_some, he]⟩
theorem put_ref {X : Nat → List Int} {id pr r : Int} {m' : List (Int × Int)} (h : PuR (flP X) id pr false r m') : r = rfz X id pr ∧ m' = flP (putL X id pr) := by
  rcases h with ⟨hb, rfl, rfl⟩ | ⟨h1, h2, h3, hc⟩
  · have hr : rfz X id pr = 2 := by
      unfold rfz
      by_cases h0 : id < 0
      · rw [if_pos h0]
      · rw [if_neg h0, if_pos]
        unfold vld; rw [decide_eq_false_iff_not]; omega
    exact ⟨hr.symm, by unfold putL; rw [if_neg (by omega)]⟩
  · have hv : vld pr = true := decide_eq_true ⟨h2, by omega⟩
    rcases hc with ⟨hk, rfl, rfl⟩ | ⟨hno, rfl, hi⟩
    · have hr : rfz X id pr = 7 := by
        unfold rfz; rw [if_neg (by omega), if_neg (by rw [hv]; simp), if_pos (hasL_iff.2 (found.1 hk))]
      exact ⟨hr.symm, by unfold putL; rw [if_neg (by omega)]⟩
    · have hr : rfz X id pr = 0 := by
        unfold rfz; rw [if_neg (by omega), if_neg (by rw [hv]; simp), if_neg]
        intro e
        obtain ⟨k, hk, he⟩ := found.2 (hasL_iff.1 e)
        exact hno k hk he
      refine ⟨hr.symm, ?_⟩
      unfold putL; rw [if_pos hr]
      obtain ⟨p, rfl⟩ : ∃ p : Nat, pr = (p : Int) := ⟨pr.toNat, by omega⟩
      rw [Int.toNat_natCast]
      exact ins_back (by omega) hi
theorem front_ref {X : Nat → List Int} {id pr r : Int} {m' : List (Int × Int)} (h : PuR (flP X) id pr true r m') : r = rfz X id pr ∧ m' = flP (frontL X id pr) := by
  rcases h with ⟨hb, rfl, rfl⟩ | ⟨h1, h2, h3, hc⟩
  · have hr : rfz X id pr = 2 := by
      unfold rfz
      by_cases h0 : id < 0
      · rw [if_pos h0]
      · rw [if_neg h0, if_pos]
        unfold vld; rw [decide_eq_false_iff_not]; omega
    exact ⟨hr.symm, by unfold frontL; rw [if_neg (by omega)]⟩
  · have hv : vld pr = true := decide_eq_true ⟨h2, by omega⟩
    rcases hc with ⟨hk, rfl, rfl⟩ | ⟨hno, rfl, hi⟩
    · have hr : rfz X id pr = 7 := by
        unfold rfz; rw [if_neg (by omega), if_neg (by rw [hv]; simp), if_pos (hasL_iff.2 (found.1 hk))]
      exact ⟨hr.symm, by unfold frontL; rw [if_neg (by omega)]⟩
    · have hr : rfz X id pr = 0 := by
        unfold rfz; rw [if_neg (by omega), if_neg (by rw [hv]; simp), if_neg]
        intro e
        obtain ⟨k, hk, he⟩ := found.2 (hasL_iff.1 e)
        exact hno k hk he
      refine ⟨hr.symm, ?_⟩
      unfold frontL; rw [if_pos hr]
      obtain ⟨p, rfl⟩ : ∃ p : Nat, pr = (p : Int) := ⟨pr.toNat, by omega⟩
      rw [Int.toNat_natCast]
      exact ins_front (by omega) hi
theorem cutP_filter {l : List (Int × Int)} {id : Int} (hn : (l.map (fun y => y.1)).Nodup) : ∀ {i : Nat}, i < l.length → (l.getD i (0, 0)).1 = id → l.take i ++ l.drop (i + 1) = l.filter (fun x => decide (x.1 ≠ id)) := by
  induction l with
  | nil => intro i h; simp at h
  | cons a l ih =>
    intro i h he
    rw [List.map_cons, List.nodup_cons] at hn
    cases i with
    | zero =>
      have ha : a.1 = id := by simpa using he
      subst ha
      rw [List.filter_cons_of_neg (by simp)]
      have : l.filter (fun x => decide (x.1 ≠ a.1)) = l := by
        rw [List.filter_eq_self]
        intro x hx
        exact decide_eq_true fun e => hn.1 (List.mem_map.2 ⟨x, hx, e⟩)
      rw [this]; simp
    | succ i =>
      have h2 : i < l.length := by simpa using h
      have h3 : (l.getD i (0, 0)).1 = id := by simpa using he
      have hm : l.getD i (0, 0) ∈ l := by rw [List.getD_eq_getElem?_getD, List.getElem?_eq_getElem h2]; exact List.getElem_mem _
      have hne : a.1 ≠ id := fun e => hn.1 (List.mem_map.2 ⟨_, hm, by rw [h3, e]⟩)
      rw [List.filter_cons_of_pos (by simpa using hne), ← ih hn.2 h2 h3]
      simp
theorem af_mem {X : Nat → List Int} {j : Nat} (hj : j ≤ 64) {x : Int} (h : x ∈ af X j) : ∃ q, q < 64 ∧ 64 ≤ q + j ∧ x ∈ X q := by
  rw [← fp_fst] at h
  obtain ⟨y, hy, rfl⟩ := List.mem_map.1 h
  obtain ⟨q, h1, h2, _, h4⟩ := (fp_mem X j hj y).1 hy
  exact ⟨q, h1, h2, h4⟩
theorem Okk.af {X : Nat → List Int} (h : Okk X) : ∀ j, j ≤ 64 → (af X j).Nodup := by
  intro j
  induction j with
  | zero => intro _; exact List.nodup_nil
  | succ j ih =>
    intro hj
    simp only [Go.Proofs.Ytbkjcjkbicaibaa.af]
    rw [List.nodup_append]
    refine ⟨ih (by omega), h.nd _ (by omega), fun a ha b hb e => ?_⟩
    subst e
    obtain ⟨q, h1, h2, h3⟩ := af_mem (by omega) ha
    have := h.dj q (63 - j) h1 (by omega) a h3 hb
    omega
theorem fp_cut {X Y : Nat → List Int} {id : Int} : ∀ j, j ≤ 64 → (∀ q, q < 64 → Y q = (X q).filter (fun x => decide (x ≠ id))) → fp Y j = (fp X j).filter (fun x => decide (x.1 ≠ id)) := by
  intro j
  induction j with
  | zero => intro _ _; rfl
  | succ j ih =>
    intro hj h
    simp only [fp, List.filter_append]
    rw [ih (by omega) h, h (63 - j) (by omega)]
    congr 1
    unfold tg
    rw [List.filter_map]; rfl
theorem drop_ref {X X' : Nat → List Int} {id : Int} {ok ok' : Bool} {m' : List (Int × Int)} (hk : Okk X) (h : DpR (flP X) id ok m') (d : Dp X id ok' X') : ok' = ok ∧ m' = flP X' ∧ Okk X' ∧ (∀ q, q < 64 → (X' q).length ≤ (X q).length) := by
  rcases h with ⟨k, hk1, hk2, rfl, rfl⟩ | ⟨hno, rfl, rfl⟩
  · obtain ⟨q0, hq0, hm0⟩ := found.1 ⟨k, hk1, hk2⟩
    rcases d with ⟨p, i, hp, hi, he, rfl, rfl⟩ | ⟨hno, _⟩
    · have hnd : ((flP X).map (fun y => y.1)).Nodup := by rw [fl_fst]; exact hk.af 64 (Nat.le_refl _)
      have hcf := cut_filter (hk.nd p hp) hi he
      have hpm : id ∈ X p := by rw [← he]; exact getD_mem hi
      refine ⟨rfl, ?_, ?_, fun q hq => ?_⟩
      · rw [cutP_filter hnd hk1 hk2, hcf]
        symm
        unfold flP
        refine fp_cut 64 (Nat.le_refl _) (fun q hq => ?_)
        by_cases e : q = p
        · subst e; rw [upd_same]
        · rw [upd_other _ _ e, filter_ne_self (fun hm => e (hk.dj _ _ hq hp id hm hpm))]
      · rw [hcf]
        exact hk.upd hp ((hk.nd p hp).filter _) (fun x hx => .inl (List.mem_filter.1 hx).1)
      · by_cases e : q = p
        · subst e; rw [upd_same, hcf]; exact List.length_filter_le _ _
        · rw [upd_other _ _ e]; exact Nat.le_refl _
    · exact absurd hm0 (hno q0 hq0)
  · rcases d with ⟨p, i, hp, hi, he, rfl, rfl⟩ | ⟨_, rfl, rfl⟩
    · obtain ⟨k, hk1, hk2⟩ := (found (X := X) (id := id)).2 ⟨p, hp, by rw [← he]; exact getD_mem hi⟩
      exact absurd hk2 (hno k hk1)
    · exact ⟨rfl, rfl, hk, fun _ _ => Nat.le_refl _⟩
theorem take_ref {X X' : Nat → List Int} {x : Int} {ok : Bool} (hk : Okk X) (t : Tk X x ok X') : (flP X = [] ∧ ok = false ∧ x = 0 ∧ X' = X) ∨ (∃ y, flP X = y :: flP X' ∧ y.1 = x ∧ ok = true ∧ Okk X' ∧ ∀ q, q < 64 → (X' q).length ≤ (X q).length) := by
  rcases t with ⟨p, L, ht, hl, rfl, rfl⟩ | ⟨he, rfl, rfl, rfl⟩
  · refine .inr ⟨(x, (p : Int)), ?_, rfl, rfl, ?_, fun q hq => ?_⟩
    · obtain ⟨H, T, hs, hH, hT⟩ := fl_split X ht.lt
      have hself := fl_self X hs
      have hH0 : H = [] := by
        rw [List.eq_nil_iff_forall_not_mem]
        intro y hy
        obtain ⟨q, h1, h2, h3⟩ := fl_mem.1 (by rw [hself]; exact List.mem_append_left _ hy : y ∈ flP X)
        have := hH y hy
        rw [ht.up q (by omega) h1] at h3
        cases h3
      rw [hself, hs, hH0, hl]; rfl
    · have := hk.nd p ht.lt
      rw [hl] at this
      exact hk.upd ht.lt (List.nodup_cons.1 this).2 (fun y hy => .inl (by rw [hl]; exact List.mem_cons_of_mem _ hy))
    · by_cases e : q = p
      · subst e; rw [upd_same, hl]; simp
      · rw [upd_other _ _ e]; exact Nat.le_refl _
  · refine .inl ⟨?_, rfl, rfl, rfl⟩
    rw [List.eq_nil_iff_forall_not_mem]
    intro y hy
    obtain ⟨q, h1, _, h3⟩ := fl_mem.1 hy
    rw [he q h1] at h3; cases h3
theorem line_le (X : Nat → List Int) {p : Nat} (hp : p < 64) : (X p).length ≤ (flP X).length := by
  obtain ⟨H, T, hs, _, _⟩ := fl_split X hp
  rw [fl_self X hs]
  simp [tg]; omega
theorem ins_len {m m' : List (Int × Int)} {x : Int × Int} {ah : Bool} (h : InsR m x ah m') : m'.length = m.length + 1 := by
  obtain ⟨i, hi, rfl, _⟩ := h
  rw [List.length_append, List.length_cons, List.length_take, List.length_drop]; omega
theorem change_ref {X X' : Nat → List Int} {id pr : Int} {ok ok' : Bool} {m' : List (Int × Int)} (hk : Okk X) (h : ChR (flP X) id pr ok m') (d : Cg X id pr ok' X') : ok' = ok ∧ m' = flP X' ∧ Okk X' ∧ (∀ q, q < 64 → (X' q).length ≤ (X q).length + 1) := by
  rcases d with ⟨p, i, hp, hi, he, hc⟩ | ⟨hno, rfl, rfl⟩
  · have hpm : id ∈ X p := by rw [← he]; exact getD_mem hi
    obtain ⟨k0, hk01, hk02⟩ := (found (X := X) (id := id)).2 ⟨p, hp, hpm⟩
    have hv : ∀ q : Nat, q < 64 → vld (q : Int) = true := fun q hq => decide_eq_true ⟨by omega, by omega⟩
    rcases h with ⟨hb, rfl, rfl⟩ | ⟨h1, h2, rfl, k, hk1, hk2, hcc⟩
    · have hb : pr < 0 ∨ 63 < pr := by
        rcases hb with hb | hb
        · exact absurd hk02 (hb k0 hk01)
        · exact hb
      rcases hc with ⟨e, _⟩ | ⟨q, e, hq, _⟩ | ⟨_, rfl, rfl⟩
      · omega
      · omega
      · exact ⟨rfl, rfl, hk, fun _ _ => Nat.le_succ _⟩
    · have hvp : vld pr = true := decide_eq_true ⟨h1, by omega⟩
      have hkp : ((flP X).getD k (0, 0)).2 = (p : Int) := by
        have hm : (flP X).getD k (0, 0) ∈ flP X := by
          rw [List.getD_eq_getElem?_getD, List.getElem?_eq_getElem hk1]; exact List.getElem_mem _
        obtain ⟨q, a, b, c⟩ := fl_mem.1 hm
        rw [hk2] at c
        rw [b, hk.dj q p a hp id c hpm]
      rw [hkp] at hcc
      rcases hc with ⟨e, rfl, rfl⟩ | ⟨q, rfl, hq, hqp, rfl, rfl⟩ | ⟨e, _⟩
      · rcases hcc with ⟨_, rfl⟩ | ⟨hne, _⟩
        · exact ⟨rfl, rfl, hk, fun _ _ => Nat.le_succ _⟩
        · omega
      · rcases hcc with ⟨e, _⟩ | ⟨_, o, m1, hd, hi2⟩
        · omega
        · obtain ⟨_, rfl, hk1', hl1⟩ := drop_ref (X' := upd X p ((X p).take i ++ (X p).drop (i + 1))) (ok' := true) hk hd (.inl ⟨p, i, hp, hi, he, rfl, rfl⟩)
          have hcf := cut_filter (hk.nd p hp) hi he
          have hX1q : upd X p ((X p).take i ++ (X p).drop (i + 1)) q = X q := upd_other _ _ hqp
          have := ins_back hq hi2
          rw [hX1q] at this
          have hidq : id ∉ X q := fun hm => hqp (hk.dj q p hq hp id hm hpm)
          refine ⟨rfl, this, hk1'.upd hq ?_ ?_, fun q' hq' => ?_⟩
          · rw [List.nodup_append]
            exact ⟨hk.nd q hq, by simp, fun a ha b hb e => hidq (by rw [← List.mem_singleton.1 hb, ← e]; exact ha)⟩
          · intro x hx
            rcases List.mem_append.1 hx with hx | hx
            · rw [hX1q]; exact .inl hx
            · rw [List.mem_singleton.1 hx]
              refine .inr fun q' hq' hm => ?_
              by_cases e : q' = p
              · subst e; rw [upd_same, hcf] at hm
                have := (List.mem_filter.1 hm).2
                simp at this
              · rw [upd_other _ _ e] at hm
                exact e (hk.dj q' p hq' hp id hm hpm)
          · by_cases e : q' = q
            · subst e; rw [upd_same]; simp
            · rw [upd_other _ _ e]; have := hl1 q' hq'; omega
      · rw [hvp] at e; cases e
  · rcases h with ⟨_, rfl, rfl⟩ | ⟨_, _, _, k, hk1, hk2, _⟩
    · exact ⟨rfl, rfl, hk, fun _ _ => Nat.le_succ _⟩
    · obtain ⟨q, hq, hm⟩ := found.1 ⟨k, hk1, hk2⟩
      exact absurd hm (hno q hq)
theorem chr_len {m m' : List (Int × Int)} {id pr : Int} {ok : Bool} (h : ChR m id pr ok m') : m'.length ≤ m.length + 1 := by
  rcases h with ⟨_, _, rfl⟩ | ⟨_, _, _, k, hk, _, ⟨_, rfl⟩ | ⟨_, o, m1, hd, hi⟩⟩
  · omega
  · omega
  · have h1 := ins_len hi
    rcases hd with ⟨k, hk, _, _, rfl⟩ | ⟨_, _, rfl⟩
    · rw [List.length_append, List.length_take, List.length_drop] at h1; omega
    · omega
theorem pur_len {m m' : List (Int × Int)} {id pr r : Int} {ah : Bool} (h : PuR m id pr ah r m') : m'.length ≤ m.length + 1 := by
  rcases h with ⟨_, _, rfl⟩ | ⟨_, _, _, ⟨_, _, rfl⟩ | ⟨_, _, hi⟩⟩
  · omega
  · omega
  · have := ins_len hi; omega
theorem dpr_len {m m' : List (Int × Int)} {id : Int} {ok : Bool} (h : DpR m id ok m') : m'.length ≤ m.length := by
  rcases h with ⟨k, hk, _, _, rfl⟩ | ⟨_, _, rfl⟩
  · rw [List.length_append, List.length_take, List.length_drop]; omega
  · omega
end Go.Proofs.Ytbkjcjkbicaibaa
