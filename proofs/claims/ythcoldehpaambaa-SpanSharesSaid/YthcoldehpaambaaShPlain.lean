/-
  Plain facts on common divisors and multiples of lists, and contracts over a row that the call made itself. Each statement bears its own conditions.
-/
import Derived.Test.YthcoldehpaambaaDivides
import Derived.Laws.OwnMore
import Derived.Maps.AppendAt
import Derived.Deep.AppendLies
import Derived.Deep.Draws
namespace Go.Proofs.Ythcoldehpaambaa
open Go.RowKit
set_option linter.unusedSimpArgs false

theorem gl_mul (zs : List Int) (k : Nat) : gl (zs.map (· * (k : Int))) = gl zs * k := by
  have key : ∀ (zs : List Int) (a : Nat), (zs.map (· * (k : Int))).foldl (fun g z => Nat.gcd g z.natAbs) (a * k) = zs.foldl (fun g z => Nat.gcd g z.natAbs) a * k := by
    intro zs
    induction zs with
    | nil => intro a; rfl
    | cons z zs ih =>
      intro a
      simp only [List.map_cons, List.foldl_cons]
      rw [Int.natAbs_mul, Int.natAbs_natCast, Nat.gcd_mul_right, ih]
  have := key zs 0
  rw [Nat.zero_mul] at this
  exact this

theorem gl_dvd (zs : List Int) : ∀ i, i < zs.length → gl zs ∣ (zs.getD i 0).natAbs := by
  have keep : ∀ (zs : List Int) (a : Nat), zs.foldl (fun g z => Nat.gcd g z.natAbs) a ∣ a := by
    intro zs
    induction zs with
    | nil => intro a; exact Nat.dvd_refl _
    | cons z zs ih => intro a; exact Nat.dvd_trans (ih _) (Nat.gcd_dvd_left _ _)
  have key : ∀ (zs : List Int) (a : Nat) (i : Nat), i < zs.length → zs.foldl (fun g z => Nat.gcd g z.natAbs) a ∣ (zs.getD i 0).natAbs := by
    intro zs
    induction zs with
    | nil => intro a i h; simp at h
    | cons z zs ih =>
      intro a i h
      cases i with
      | zero => simp only [List.foldl_cons, List.getD_cons_zero]; exact Nat.dvd_trans (keep _ _) (Nat.gcd_dvd_right _ _)
      | succ i => simp only [List.foldl_cons, List.getD_cons_succ]; exact ih _ i (by simpa using h)
  intro i h
  exact key zs 0 i h

theorem gl_rem {zs : List Int} {i : Nat} (h : i < zs.length) (h0 : 0 ≤ zs.getD i 0) : (zs.getD i 0) % (gl zs : Int) = 0 := by
  have hd := gl_dvd zs i h
  have : ((gl zs : Nat) : Int) ∣ zs.getD i 0 := by
    have e : ((zs.getD i 0).natAbs : Int) = zs.getD i 0 := by omega
    rw [← e]; exact Int.ofNat_dvd.mpr hd
  exact Int.emod_eq_zero_of_dvd this

theorem lstep_dvd {m z n : Int} (hm : 1 ≤ m) (h : lstep (some m) z = some n) : 1 ≤ z ∧ m ∣ n ∧ z ∣ n := by
  by_cases c1 : z < 1
  · rw [lstep_small c1] at h; cases h
  · by_cases c2 : 1099511627776 / m < z / (Nat.gcd m.natAbs z.natAbs : Nat)
    · rw [lstep_over c1 c2] at h; cases h
    · rw [lstep_fits c1 c2] at h
      have q := quo_of hm (show 1 ≤ z by omega)
      cases h
      refine ⟨by omega, Int.dvd_mul_right _ _, ?_⟩
      obtain ⟨k, hk⟩ : ((Nat.gcd m.natAbs z.natAbs : Nat) : Int) ∣ m := by
        have h := Int.ofNat_dvd.mpr (Nat.gcd_dvd_left m.natAbs z.natAbs)
        have e : (m.natAbs : Int) = m := by omega
        rwa [e] at h
      have e := q.eq
      obtain ⟨G, hG⟩ : ∃ G : Int, ((Nat.gcd m.natAbs z.natAbs : Nat) : Int) = G := ⟨_, rfl⟩
      obtain ⟨f, hf⟩ : ∃ f : Int, z / (Nat.gcd m.natAbs z.natAbs : Nat) = f := ⟨_, rfl⟩
      rw [hf, hG] at e
      rw [hG] at hk
      rw [hf]
      exact ⟨k, by rw [hk, ← e, Int.mul_right_comm]⟩

theorem lcm_dvd {zs : List Int} {n : Int} (h : lcmO zs = some n) : ∀ i, i < zs.length → 1 ≤ zs.getD i 0 ∧ zs.getD i 0 ∣ n := by
  have key : ∀ (zs : List Int) (a n : Int), 1 ≤ a → a ≤ 1099511627776 → zs.foldl lstep (some a) = some n → a ∣ n ∧ ∀ i, i < zs.length → 1 ≤ zs.getD i 0 ∧ zs.getD i 0 ∣ n := by
    intro zs
    induction zs with
    | nil => intro a n h1 h2 h; cases h; exact ⟨Int.dvd_refl _, fun i hi => by simp at hi⟩
    | cons z zs ih =>
      intro a n h1 h2 h
      rw [List.foldl_cons] at h
      cases hs : lstep (some a) z with
      | none => rw [hs, fold_none] at h; cases h
      | some b =>
        rw [hs] at h
        obtain ⟨d1, d2, d3⟩ := lstep_dvd h1 hs
        have hb : 1 ≤ b ∧ b ≤ 1099511627776 := by
          by_cases c1 : z < 1
          · rw [lstep_small c1] at hs; cases hs
          · by_cases c2 : 1099511627776 / a < z / (Nat.gcd a.natAbs z.natAbs : Nat)
            · rw [lstep_over c1 c2] at hs; cases hs
            · rw [lstep_fits c1 c2] at hs
              have q := quo_of h1 (show 1 ≤ z by omega)
              have := (le_quo h1).mp (Int.not_lt.mp c2)
              have := Int.mul_pos (show 0 < a by omega) (show 0 < z / (Nat.gcd a.natAbs z.natAbs : Nat) by have := q.f1; omega)
              cases hs
              omega
        obtain ⟨e1, e2⟩ := ih b n hb.1 hb.2 h
        refine ⟨Int.dvd_trans d2 e1, fun i hi => ?_⟩
        cases i with
        | zero => exact ⟨d1, Int.dvd_trans d3 e1⟩
        | succ i => exact e2 i (by simpa using hi)
  exact (key zs 1 n (by omega) (by omega) h).2

theorem lcm_twice (zs : List Int) : lcmO (zs ++ zs) = lcmO zs := by
  cases h : lcmO zs with
  | none => exact lcm_none zs.length (by simpa using h)
  | some n =>
    have hb := lcm_bd zs h
    have hd := lcm_dvd h
    have stay : ∀ (ys : List Int), (∀ y ∈ ys, 1 ≤ y ∧ y ∣ n) → ys.foldl lstep (some n) = some n := by
      intro ys
      induction ys with
      | nil => intro _; rfl
      | cons y ys ih =>
        intro hy
        obtain ⟨y1, k, hk⟩ := hy y List.mem_cons_self
        have e : lstep (some n) y = some n := by
          have hg : Nat.gcd n.natAbs y.natAbs = y.natAbs := Nat.gcd_eq_right (by rw [hk, Int.natAbs_mul]; exact Nat.dvd_mul_right _ _)
          have hq : y / (Nat.gcd n.natAbs y.natAbs : Nat) = 1 := by
            rw [hg]
            have : ((y.natAbs : Nat) : Int) = y := by omega
            rw [this]; exact Int.ediv_self (by omega)
          have c2 : ¬ 1099511627776 / n < y / (Nat.gcd n.natAbs y.natAbs : Nat) := by
            rw [hq]
            have := (le_quo (m := n) (f := 1) hb.1).mpr (by omega)
            omega
          rw [lstep_fits (by omega) c2, hq, Int.mul_one]
        rw [List.foldl_cons, e]
        exact ih fun z hz => hy z (List.mem_cons_of_mem _ hz)
    have : lcmO (zs ++ zs) = zs.foldl lstep (lcmO zs) := by unfold lcmO; rw [List.foldl_append]
    rw [this, h]
    refine stay zs fun y hy => ?_
    obtain ⟨i, hi, rfl⟩ := List.mem_iff_getElem.mp hy
    have := hd i hi
    simpa [List.getD_eq_getElem?_getD, List.getElem?_eq_getElem hi] using this

/-- A row that the call made itself, as a row at a place. -/
theorem own_cells {w : World} {base : Nat} {A : Option Addr} {n c : Nat} {zs : List Int} (h : w.ownsRow base 3 1 (.slice A n c) n (zs.map (Value.int .i64))) :
    (n = 0 ∧ zs = []) ∨ ∃ g, A = some ⟨g, 0, none⟩ ∧ base ≤ g ∧ g < w.heap.size ∧ zs.length = n ∧ ∀ i, i < n → w.cell? ⟨g, 0 + i, none⟩ = some (.int .i64 (zs.getD i 0)) := by
  have hl : zs.length = n := by have := h.1; simpa using this
  by_cases h0 : n = 0
  · left; subst h0; exact ⟨rfl, List.eq_nil_of_length_eq_zero hl⟩
  · right
    rcases h.2 with ⟨_, h1⟩ | ⟨g, cap, cur, hv, hbg, _⟩
    · exact absurd h1 h0
    · injection hv with e1 _ _
      subst e1
      have hlt := h.lt g rfl
      refine ⟨g, rfl, hlt.1, hlt.2, hl, fun i hi => ?_⟩
      have := h.cells (g := g) rfl i (.int .i64 (zs.getD i 0)) (by simp [List.getD_eq_getElem?_getD, List.getElem?_eq_getElem (show i < zs.length by omega)])
      rwa [Addr.add_lit] at this

theorem own_below {w w' : World} {base : Nat} {e : TypeId} {size : Nat} {v : Value} {n : Nat} {xs : List Value} (h : w.ownsRow base e size v n xs) (hb : Below w.heap.size w w') : w'.ownsRow base e size v n xs := by
  refine ⟨h.1, ?_⟩
  rcases h.2 with h1 | ⟨g, cap, cur, hv, hbg, hg, r⟩
  · exact .inl h1
  · refine .inr ⟨g, cap, cur, hv, hbg, ?_, r⟩
    subst hv
    rw [hb.block g (h.lt g rfl).2]; exact hg

theorem slice_form {w : World} {base : Nat} {e : TypeId} {size : Nat} {v : Value} {n : Nat} {xs : List Value} (h : w.ownsRow base e size v n xs) : ∃ A c, v = .slice A n c := by
  rcases h.2 with ⟨rfl, rfl⟩ | ⟨g, cap, cur, hv, _⟩
  · exact ⟨_, _, rfl⟩
  · exact ⟨_, _, hv⟩

theorem gcd_own {base : Nat} {A : Option Addr} {n c : Nat} {zs : List Int} (w : World) (h : w.ownsRow base 3 1 (.slice A n c) n (zs.map (Value.int .i64))) (hn : n ≤ 4611686018427387904)
    (hz : ∀ i, i < n → -9223372036854775807 ≤ zs.getD i 0 ∧ zs.getD i 0 ≤ 9223372036854775807) :
    Calls Try.prog 20 #[.slice A n c] w fun e w' => e = .returned (.int .i64 (gl zs)) ∧ Below w.heap.size w w' := by
  rcases own_cells h with ⟨rfl, rfl⟩ | ⟨g, rfl, _, hg, hl, hc⟩
  · exact gcdbig_nil A c w
  · exact gcdbig_some g 0 n c zs w hl (by omega) hg hc hz
theorem lcm_own {base : Nat} {A : Option Addr} {n c : Nat} {zs : List Int} (w : World) (h : w.ownsRow base 3 1 (.slice A n c) n (zs.map (Value.int .i64))) (hn : n ≤ 4611686018427387904)
    (hz : ∀ i, i < n → -9223372036854775807 ≤ zs.getD i 0 ∧ zs.getD i 0 ≤ 9223372036854775807) :
    Calls Try.prog 18 #[.slice A n c] w fun e w' => e = .returned (.tuple #[.int .i64 (lv (lcmO zs)), .int .i64 (lerr (lcmO zs))]) ∧ Below w.heap.size w w' := by
  rcases own_cells h with ⟨rfl, rfl⟩ | ⟨g, rfl, _, hg, hl, hc⟩
  · exact lcm_nil A c w
  · exact lcm_some g 0 n c zs w hl hn hg hc hz
end Go.Proofs.Ythcoldehpaambaa
