/-
  The least common multiple: what it is, as a fold over the list, and the contracts of the program's Lcm and of the reference's. Each statement bears its own conditions.
-/
import Derived.Test.YthcoldehpaambaaGcdBig
import Derived.Test.YthcoldehpaambaaTells
namespace Go.Proofs.Ythcoldehpaambaa
open Go.RowKit
set_option linter.unusedSimpArgs false

/-- One number more: none where it is below 1 or where the multiple would be beyond 2^40. -/
def lstep (m : Option Int) (z : Int) : Option Int :=
  match m with
  | none => none
  | some m => if z < 1 then none else if 1099511627776 / m < z / (Nat.gcd m.natAbs z.natAbs : Nat) then none else some (m * (z / (Nat.gcd m.natAbs z.natAbs : Nat)))
def lcmO (zs : List Int) : Option Int := zs.foldl lstep (some 1)
def lv (o : Option Int) : Int := o.getD 0
def lerr (o : Option Int) : Int := if o.isSome then 0 else 2

theorem lcm_next (zs : List Int) (k : Nat) (h : k < zs.length) : lcmO (zs.take (k + 1)) = lstep (lcmO (zs.take k)) (zs.getD k 0) := by
  rw [take_next zs k h]; simp [lcmO]
theorem fold_none (zs : List Int) : zs.foldl lstep none = none := by induction zs with
  | nil => rfl
  | cons z zs ih => exact ih
theorem lcm_none {zs : List Int} (k : Nat) (h : lcmO (zs.take k) = none) : lcmO zs = none := by
  rw [← List.take_append_drop k zs, lcmO, List.foldl_append]
  unfold lcmO at h
  rw [h]; exact fold_none _

/-- What holds of a multiple m and a number z at least 1, G being their common divisor. -/
structure Quo (m z G f : Int) : Prop where
  g1 : 1 ≤ G
  gm : G ≤ m
  gz : G ≤ z
  f1 : 1 ≤ f
  fz : f ≤ z
  eq : G * f = z

theorem quo_of {m z : Int} (hm : 1 ≤ m) (hz : 1 ≤ z) : Quo m z (Nat.gcd m.natAbs z.natAbs : Nat) (z / (Nat.gcd m.natAbs z.natAbs : Nat)) := by
  have p : 0 < Nat.gcd m.natAbs z.natAbs := Nat.gcd_pos_of_pos_left _ (by omega)
  have q1 : Nat.gcd m.natAbs z.natAbs ≤ m.natAbs := Nat.gcd_le_left _ (by omega)
  have q2 : Nat.gcd m.natAbs z.natAbs ≤ z.natAbs := Nat.gcd_le_right _ (by omega)
  obtain ⟨k, hk⟩ : ((Nat.gcd m.natAbs z.natAbs : Nat) : Int) ∣ z := by
    have h := Int.ofNat_dvd.mpr (Nat.gcd_dvd_right m.natAbs z.natAbs)
    have e : (z.natAbs : Int) = z := by omega
    rwa [e] at h
  obtain ⟨G, hG⟩ : ∃ G : Int, ((Nat.gcd m.natAbs z.natAbs : Nat) : Int) = G := ⟨_, rfl⟩
  have p1 : 1 ≤ G := by omega
  have p2 : G ≤ m := by omega
  have p3 : G ≤ z := by omega
  rw [hG] at hk ⊢
  have e : z / G = k := by rw [hk]; exact Int.mul_ediv_cancel_left _ (by omega)
  have k1 : 1 ≤ k := by
    rcases Int.lt_or_le k 1 with h | h
    · have := Int.mul_nonneg (show 0 ≤ G by omega) (show 0 ≤ -k by omega)
      rw [Int.mul_neg] at this; omega
    · exact h
  have k2 : k ≤ z := by
    have := Int.mul_le_mul_of_nonneg_right p1 (show 0 ≤ k by omega); omega
  rw [e]
  exact ⟨p1, p2, p3, k1, k2, hk.symm⟩

theorem le_quo {m f : Int} (hm : 1 ≤ m) : f ≤ 1099511627776 / m ↔ m * f ≤ 1099511627776 := by
  rw [Int.le_ediv_iff_mul_le (by omega), Int.mul_comm]

theorem lstep_small {m z : Int} (h : z < 1) : lstep (some m) z = none := by unfold lstep; simp [h]
theorem lstep_over {m z : Int} (h : ¬ z < 1) (h' : 1099511627776 / m < z / (Nat.gcd m.natAbs z.natAbs : Nat)) : lstep (some m) z = none := by unfold lstep; simp [h, h']
theorem lstep_fits {m z : Int} (h : ¬ z < 1) (h' : ¬ 1099511627776 / m < z / (Nat.gcd m.natAbs z.natAbs : Nat)) : lstep (some m) z = some (m * (z / (Nat.gcd m.natAbs z.natAbs : Nat))) := by unfold lstep; simp only [h, if_false, h']
theorem lstep_none (z : Int) : lstep none z = none := rfl
theorem lcm_bd (zs : List Int) : ∀ {m : Int}, lcmO zs = some m → 1 ≤ m ∧ m ≤ 1099511627776 := by
  have key : ∀ (zs : List Int) (a m : Int), 1 ≤ a → a ≤ 1099511627776 → zs.foldl lstep (some a) = some m → 1 ≤ m ∧ m ≤ 1099511627776 := by
    intro zs
    induction zs with
    | nil => intro a m h1 h2 h; simp at h; omega
    | cons z zs ih =>
      intro a m h1 h2 h
      rw [List.foldl_cons] at h
      by_cases c1 : z < 1
      · rw [lstep_small c1, fold_none] at h; cases h
      · have q := quo_of h1 (show 1 ≤ z by omega)
        by_cases c2 : 1099511627776 / a < z / (Nat.gcd a.natAbs z.natAbs : Nat)
        · rw [lstep_over c1 c2, fold_none] at h; cases h
        · rw [lstep_fits c1 c2] at h
          have := (le_quo h1).mp (Int.not_lt.mp c2)
          exact ih _ m (by have := Int.mul_pos (show 0 < a by omega) (show 0 < z / (Nat.gcd a.natAbs z.natAbs : Nat) by have := q.f1; omega); omega) this h
  intro m h
  exact key zs 1 m (by omega) (by omega) h

/-- A number beyond 2^40 has no multiple that fits. -/
theorem lstep_great {m z : Int} (hm : 1 ≤ m) (h : 1099511627776 < z) : lstep (some m) z = none := by
  have q := quo_of hm (show 1 ≤ z by omega)
  refine lstep_over (by omega) ?_
  rcases Int.lt_or_le (1099511627776 / m) (z / (Nat.gcd m.natAbs z.natAbs : Nat)) with c | c
  · exact c
  · exfalso
    have c1 := (le_quo hm).mp c
    have := Int.mul_le_mul_of_nonneg_right q.gm (show 0 ≤ z / (Nat.gcd m.natAbs z.natAbs : Nat) by have := q.f1; omega)
    have := q.eq
    omega

/-- The loop's relation of the program's Lcm. -/
def LcmRel (zs : List Int) (len : Nat) (W : World) (m i : Value) (wr : World) : Prop :=
  ∃ (k : Nat) (x : Int), k ≤ len ∧ i = .int .i64 k ∧ m = .int .i64 x ∧ Hid (lcmO (zs.take k) = some x) ∧ 1 ≤ x ∧ x ≤ 1099511627776 ∧ Below W.heap.size W wr

theorem tup_ret {a b c d : Int} (h : a = c) (h' : b = d) : Ending.returned (.tuple #[.int .i64 a, .int .i64 b]) = .returned (.tuple #[.int .i64 c, .int .i64 d]) := by rw [h, h']

theorem lcm_nil (a : Option Addr) (cap : Nat) (w : World) :
    Calls Try.prog 18 #[.slice a 0 cap] w fun e w' => e = .returned (.tuple #[.int .i64 (lv (lcmO [])), .int .i64 (lerr (lcmO []))]) ∧ Below w.heap.size w w' := by
  go_enter Try.func18, Try.ntmps18
  go_wp2
  go_loop [4, 10] (fun g i => i = .int .i64 0 ∧ g = .int .i64 1) (fun _ _ => 0)
  case atStart => exact ⟨rfl, rfl⟩
  case round =>
    obtain ⟨rfl, rfl⟩ := hrel
    go_wp2
    go_ret2
    exact ⟨rfl, Below.refl _ _⟩

set_option maxHeartbeats 1000000 in
theorem lcm_some (b off len cap : Nat) (zs : List Int) (w : World) (hl : zs.length = len) (hlen : len ≤ 4611686018427387904) (hb0 : b < w.heap.size)
    (hc : ∀ i, i < len → w.cell? ⟨b, off + i, none⟩ = some (.int .i64 (zs.getD i 0))) (hz : ∀ i, i < len → -9223372036854775807 ≤ zs.getD i 0 ∧ zs.getD i 0 ≤ 9223372036854775807) :
    Calls Try.prog 18 #[.slice (some ⟨b, off, none⟩) len cap] w fun e w' => e = .returned (.tuple #[.int .i64 (lv (lcmO zs)), .int .i64 (lerr (lcmO zs))]) ∧ Below w.heap.size w w' := by
  have HC := Lib.hid hc
  have HZ := Lib.hid hz
  have HL := Lib.hid hl
  clear hc hz hl
  go_enter Try.func18, Try.ntmps18
  go_wp2
  go_loopw [4, 10] (fun m i wr => LcmRel zs len w m i wr) (fun _ i _ => len - (intOf i).toNat)
  case atStart => exact ⟨0, 1, Nat.zero_le _, rfl, rfl, rfl, by omega, by omega, Below.refl _ _⟩
  case round =>
    obtain ⟨k, x, hk, rfl, rfl, hx, hx1, hx2, hbel⟩ := hrel
    by_cases hlt : k < len
    · have hcell : wr.cell? ⟨b, off + k, none⟩ = some (.int .i64 (zs.getD k 0)) := (hbel.cell (by exact hb0)).trans (HC.out k hlt)
      obtain ⟨z1, z2⟩ := HZ.out k hlt
      have HN := lcm_next zs k (by rw [HL.out]; exact hlt)
      obtain ⟨z, Hz⟩ : ∃ z, Hid (zs.getD k 0 = z) := ⟨_, rfl⟩
      rw [Hz.out] at hcell z1 z2 HN
      rw [hx.out] at HN
      clear Hz
      by_cases c1 : z < 1
      · rw [lstep_small c1] at HN
        have HF := Lib.hid (lcm_none _ HN)
        clear HN
        go_wp2
        go_ret2
        exact ⟨tup_ret (by rw [HF.out]; rfl) (by rw [HF.out]; rfl), hbel⟩
      · have q := quo_of hx1 (show 1 ≤ z by omega)
        have gt := gl_two x z
        obtain ⟨G, HG⟩ : ∃ G : Nat, Hid (Nat.gcd x.natAbs z.natAbs = G) := ⟨_, rfl⟩
        rw [HG.out] at q gt
        obtain ⟨f, Hf⟩ : ∃ f, z / (G : Int) = f := ⟨_, rfl⟩
        rw [Hf] at q
        obtain ⟨q1, q2, q3, q4, q5, q6⟩ := q
        have Q6 := Lib.hid q6
        clear q6
        have gc := gcdbig_some wr.heap.size 0 2 2 [x, z] (wr.alloc (.cells #[.int .i64 x, .int .i64 z] 3)) rfl (by omega) (by simp) (fun i hi => by match i, hi with | 0, _ => simp | 1, _ => simp) (fun i hi => by match i, hi with | 0, _ => (simp; omega) | 1, _ => (simp; omega))
        rw [gt] at gc
        have HNH := Lib.hid HN
        clear HN gt
        go_wp2_with fail
        refine gc.mono ?_
        clear gc
        rintro _ w1 ⟨rfl, hb⟩
        have bel1 : Below w.heap.size w w1 := (hbel.alloc hbel.size _).trans (hb.mono (by have := hbel.size; simp; omega))
        clear hb hbel hcell
        by_cases c2 : 1099511627776 / x < f
        · have HF : Hid (lcmO zs = none) := lcm_none (k + 1) (by rw [HNH.out]; exact lstep_over (by omega) (by rw [HG.out, Hf]; exact c2))
          go_wp2_with fail
          go_ret2
          exact ⟨tup_ret (by rw [HF.out]; rfl) (by rw [HF.out]; rfl), bel1⟩
        · have hxf := (le_quo hx1).mp (Int.not_lt.mp c2)
          have hxf0 : 1 ≤ x * f := Int.mul_pos (by omega) (by omega)
          have HF : Hid (lcmO (zs.take (k + 1)) = some (x * f)) := by unfold Hid; rw [HNH.out, lstep_fits (by omega) (by rw [HG.out, Hf]; exact c2), HG.out, Hf]
          go_wp2_with fail
          go_roundw
          case rel => first | exact ⟨k + 1, x * f, by omega, by go_num, rfl, HF, hxf0, hxf, bel1⟩ | ((repeat apply Exists.intro); exact ⟨⟨k + 1, x * f, by omega, by go_num, rfl, HF, hxf0, hxf, bel1⟩, rfl⟩)
          case measure => simp [intOf]; omega
    · obtain rfl : k = len := by omega
      have HF : Hid (lcmO zs = some x) := by have := hx.out; rwa [List.take_of_length_le (by rw [HL.out]; exact Nat.le_refl _)] at this
      go_wp2
      go_ret2
      exact ⟨tup_ret (by rw [HF.out]; rfl) (by rw [HF.out]; rfl), hbel⟩
end Go.Proofs.Ythcoldehpaambaa
