/-
  The contracts of toWord, of Sum at any length, of Seal and of Open. Each statement bears its own conditions.
-/
import Derived.Test.YthcegmijphbhgaaDoorSum
import Derived.Lib.EndianBits
namespace Go.Proofs.YthcegmijphbhgaaDoor
open Go.RowKit
set_option linter.unusedSimpArgs false
set_option linter.unusedVariables false

theorem wrap32 (x : Int) (h0 : 0 ≤ x) (h1 : x ≤ 4294967295) : IntKind.u32.wrap x = x := by simp [IntKind.wrap, IntKind.bits, IntKind.signed]; omega
theorem toWord_raw (b off n c : Nat) (x0 x1 x2 x3 : Int) (w : World) (hn : 4 ≤ n)
    (c0 : w.cell? ⟨b, off, none⟩ = some (.int .u8 x0)) (c1 : w.cell? ⟨b, off + 1, none⟩ = some (.int .u8 x1)) (c2 : w.cell? ⟨b, off + 2, none⟩ = some (.int .u8 x2)) (c3 : w.cell? ⟨b, off + 3, none⟩ = some (.int .u8 x3))
    (y0 : 0 ≤ x0 ∧ x0 ≤ 255) (y1 : 0 ≤ x1 ∧ x1 ≤ 255) (y2 : 0 ≤ x2 ∧ x2 ≤ 255) (y3 : 0 ≤ x3 ∧ x3 ≤ 255) :
    Calls Tryd.prog 43 #[.slice (some ⟨b, off, none⟩) n c] w fun e w' => e = .returned (.int .u32 (x0 * 16777216 + x1 * 65536 + x2 * 256 + x3)) ∧ Below w.heap.size w w' := by
  obtain ⟨a0, b0⟩ := y0
  obtain ⟨a1, b1⟩ := y1
  obtain ⟨a2, b2⟩ := y2
  obtain ⟨a3, b3⟩ := y3
  have u0 : IntKind.u32.wrap x0 = x0 := wrap32 x0 (by omega) (by omega)
  have u1 : IntKind.u32.wrap x1 = x1 := wrap32 x1 (by omega) (by omega)
  have u2 : IntKind.u32.wrap x2 = x2 := wrap32 x2 (by omega) (by omega)
  have u3 : IntKind.u32.wrap x3 = x3 := wrap32 x3 (by omega) (by omega)
  have v0 : IntKind.u32.wrap (x0 * 16777216) = x0 * 16777216 := wrap32 _ (by omega) (by omega)
  have v1 : IntKind.u32.wrap (x1 * 65536) = x1 * 65536 := wrap32 _ (by omega) (by omega)
  have v2 : IntKind.u32.wrap (x2 * 256) = x2 * 256 := wrap32 _ (by omega) (by omega)
  have n0 : 0 < n := by omega
  have n1 : (1 : Int) < n := by omega
  have n2 : (2 : Int) < n := by omega
  have n3 : (3 : Int) < n := by omega
  go_enter Tryd.func43, Tryd.ntmps43
  go_wp2_with fail
  refine wp_region_held_drew (S := (fun w' => Below w.heap.size w w' ∧ w'.cell? ⟨b, off, none⟩ = some (.int .u8 x0) ∧ w'.cell? ⟨b, off + 1, none⟩ = some (.int .u8 x1) ∧ w'.cell? ⟨b, off + 2, none⟩ = some (.int .u8 x2) ∧ w'.cell? ⟨b, off + 3, none⟩ = some (.int .u8 x3))) (by kernel_rfl) ?_ (fun hHeld => ?_)
  · exact ⟨(Below.refl _ _).drew, c0, c1, c2, c3⟩
  refine takeD (i := 0) (d := some 3) (v := ?_) _ rfl rfl (by kernel_rfl) (by kernel_rfl) (by kernel_rfl) (fun _ _ _ h => h) (by rfl) ?_ (by assumption) ?_
  rotate_left
  · (intro w hSw; (try dsimp only at hSw); go_simp) <;> with_reducible rfl
  try simp only [Act.put, List.setIfInBounds_toArray, List.set_cons_zero, List.set_cons_succ]
  refine takeD (i := 1) (d := some 4) (v := ?_) _ rfl rfl (by kernel_rfl) (by kernel_rfl) (by kernel_rfl) (fun _ _ _ h => h) (by rfl) ?_ (by assumption) ?_
  rotate_left
  · (intro w hSw; (try dsimp only at hSw); go_simp) <;> with_reducible rfl
  try simp only [Act.put, List.setIfInBounds_toArray, List.set_cons_zero, List.set_cons_succ]
  refine takeD (i := 2) (d := some 5) (v := ?_) _ rfl rfl (by kernel_rfl) (by kernel_rfl) (by kernel_rfl) (fun _ _ _ h => h) (by rfl) ?_ (by assumption) ?_
  rotate_left
  · (intro w hSw; (try dsimp only at hSw); go_simp) <;> with_reducible rfl
  try simp only [Act.put, List.setIfInBounds_toArray, List.set_cons_zero, List.set_cons_succ]
  refine takeD (i := 3) (d := some 6) (v := ?_) _ rfl rfl (by kernel_rfl) (by kernel_rfl) (by kernel_rfl) (fun _ _ _ h => h) (by rfl) ?_ (by assumption) ?_
  rotate_left
  · (intro w hSw; (try dsimp only at hSw); go_simp) <;> with_reducible rfl
  try simp only [Act.put, List.setIfInBounds_toArray, List.set_cons_zero, List.set_cons_succ]
  refine takeD (i := 4) (d := some 7) (v := ?_) _ rfl rfl (by kernel_rfl) (by kernel_rfl) (by kernel_rfl) (fun _ _ _ h => h) (by rfl) ?_ (by assumption) ?_
  rotate_left
  · (intro w hSw; (try dsimp only at hSw); go_simp) <;> with_reducible rfl
  try simp only [Act.put, List.setIfInBounds_toArray, List.set_cons_zero, List.set_cons_succ]
  refine takeD (i := 5) (d := some 8) (v := ?_) _ rfl rfl (by kernel_rfl) (by kernel_rfl) (by kernel_rfl) (fun _ _ _ h => h) (by rfl) ?_ (by assumption) ?_
  rotate_left
  · (intro w hSw; (try dsimp only at hSw); go_simp) <;> with_reducible rfl
  try simp only [Act.put, List.setIfInBounds_toArray, List.set_cons_zero, List.set_cons_succ]
  refine takeD (i := 6) (d := some 9) (v := ?_) _ rfl rfl (by kernel_rfl) (by kernel_rfl) (by kernel_rfl) (fun _ _ _ h => h) (by rfl) ?_ (by assumption) ?_
  rotate_left
  · (intro w hSw; (try dsimp only at hSw); go_simp) <;> with_reducible rfl
  try simp only [Act.put, List.setIfInBounds_toArray, List.set_cons_zero, List.set_cons_succ]
  refine takeD (i := 7) (d := some 10) (v := ?_) _ rfl rfl (by kernel_rfl) (by kernel_rfl) (by kernel_rfl) (fun _ _ _ h => h) (by rfl) ?_ (by assumption) ?_
  rotate_left
  · (intro w hSw; (try dsimp only at hSw); go_simp) <;> with_reducible rfl
  try simp only [Act.put, List.setIfInBounds_toArray, List.set_cons_zero, List.set_cons_succ]
  refine takeD (i := 8) (d := some 11) (v := ?_) _ rfl rfl (by kernel_rfl) (by kernel_rfl) (by kernel_rfl) (fun _ _ _ h => h) (by rfl) ?_ (by assumption) ?_
  rotate_left
  · (intro w hSw; (try dsimp only at hSw); go_simp) <;> with_reducible rfl
  try simp only [Act.put, List.setIfInBounds_toArray, List.set_cons_zero, List.set_cons_succ]
  refine takeD (i := 9) (d := some 12) (v := ?_) _ rfl rfl (by kernel_rfl) (by kernel_rfl) (by kernel_rfl) (fun _ _ _ h => h) (by rfl) ?_ (by assumption) ?_
  rotate_left
  · (intro w hSw; (try dsimp only at hSw); go_simp) <;> with_reducible rfl
  try simp only [Act.put, List.setIfInBounds_toArray, List.set_cons_zero, List.set_cons_succ]
  refine takeD (i := 10) (d := some 13) (v := ?_) _ rfl rfl (by kernel_rfl) (by kernel_rfl) (by kernel_rfl) (fun _ _ _ h => h) (by rfl) ?_ (by assumption) ?_
  rotate_left
  · (intro w hSw; (try dsimp only at hSw); go_simp) <;> with_reducible rfl
  try simp only [Act.put, List.setIfInBounds_toArray, List.set_cons_zero, List.set_cons_succ]
  refine takeD (i := 11) (d := some 14) (v := ?_) _ rfl rfl (by kernel_rfl) (by kernel_rfl) (by kernel_rfl) (fun _ _ _ h => h) (by rfl) ?_ (by assumption) ?_
  rotate_left
  · (intro w hSw; (try dsimp only at hSw); go_simp) <;> with_reducible rfl
  try simp only [Act.put, List.setIfInBounds_toArray, List.set_cons_zero, List.set_cons_succ]
  refine takeD (i := 12) (d := some 15) (v := ?_) _ rfl rfl (by kernel_rfl) (by kernel_rfl) (by kernel_rfl) (fun _ _ _ h => h) (by rfl) ?_ (by assumption) ?_
  rotate_left
  · (intro w hSw; (try dsimp only at hSw); go_simp) <;> with_reducible rfl
  try simp only [Act.put, List.setIfInBounds_toArray, List.set_cons_zero, List.set_cons_succ]
  refine takeD (i := 13) (d := some 16) (v := ?_) _ rfl rfl (by kernel_rfl) (by kernel_rfl) (by kernel_rfl) (fun _ _ _ h => h) (by rfl) ?_ (by assumption) ?_
  rotate_left
  · (intro w hSw; (try dsimp only at hSw); go_simp) <;> with_reducible rfl
  try simp only [Act.put, List.setIfInBounds_toArray, List.set_cons_zero, List.set_cons_succ]
  refine takeD (i := 14) (d := some 17) (v := ?_) _ rfl rfl (by kernel_rfl) (by kernel_rfl) (by kernel_rfl) (fun _ _ _ h => h) (by rfl) ?_ (by assumption) ?_
  rotate_left
  · (intro w hSw; (try dsimp only at hSw); go_simp) <;> with_reducible rfl
  try simp only [Act.put, List.setIfInBounds_toArray, List.set_cons_zero, List.set_cons_succ]
  refine takeD (i := 15) (d := some 18) (v := ?_) _ rfl rfl (by kernel_rfl) (by kernel_rfl) (by kernel_rfl) (fun _ _ _ h => h) (by rfl) ?_ (by assumption) ?_
  rotate_left
  · (intro w hSw; (try dsimp only at hSw); go_simp) <;> with_reducible rfl
  try simp only [Act.put, List.setIfInBounds_toArray, List.set_cons_zero, List.set_cons_succ]
  refine takeD (i := 16) (d := some 19) (v := ?_) _ rfl rfl (by kernel_rfl) (by kernel_rfl) (by kernel_rfl) (fun _ _ _ h => h) (by rfl) ?_ (by assumption) ?_
  rotate_left
  · (intro w hSw; (try dsimp only at hSw); go_simp) <;> with_reducible rfl
  try simp only [Act.put, List.setIfInBounds_toArray, List.set_cons_zero, List.set_cons_succ]
  refine takeD (i := 17) (d := some 20) (v := ?_) _ rfl rfl (by kernel_rfl) (by kernel_rfl) (by kernel_rfl) (fun _ _ _ h => h) (by rfl) ?_ (by assumption) ?_
  rotate_left
  · (intro w hSw; (try dsimp only at hSw); go_simp) <;> with_reducible rfl
  try simp only [Act.put, List.setIfInBounds_toArray, List.set_cons_zero, List.set_cons_succ]
  refine takeD (i := 18) (d := some 21) (v := ?_) _ rfl rfl (by kernel_rfl) (by kernel_rfl) (by kernel_rfl) (fun _ _ _ h => h) (by rfl) ?_ (by assumption) ?_
  rotate_left
  · (intro w hSw; (try dsimp only at hSw); go_simp) <;> with_reducible rfl
  try simp only [Act.put, List.setIfInBounds_toArray, List.set_cons_zero, List.set_cons_succ]
  refine takeD (i := 19) (d := some 22) (v := ?_) _ rfl rfl (by kernel_rfl) (by kernel_rfl) (by kernel_rfl) (fun _ _ _ h => h) (by rfl) ?_ (by assumption) ?_
  rotate_left
  · (intro w hSw; (try dsimp only at hSw); go_simp) <;> with_reducible rfl
  try simp only [Act.put, List.setIfInBounds_toArray, List.set_cons_zero, List.set_cons_succ]
  refine takeD (i := 20) (d := some 23) (v := ?_) _ rfl rfl (by kernel_rfl) (by kernel_rfl) (by kernel_rfl) (fun _ _ _ h => h) (by rfl) ?_ (by assumption) ?_
  rotate_left
  · (intro w hSw; (try dsimp only at hSw); go_simp) <;> with_reducible rfl
  try simp only [Act.put, List.setIfInBounds_toArray, List.set_cons_zero, List.set_cons_succ]
  refine takeD (i := 21) (d := some 24) (v := ?_) _ rfl rfl (by kernel_rfl) (by kernel_rfl) (by kernel_rfl) (fun _ _ _ h => h) (by rfl) ?_ (by assumption) ?_
  rotate_left
  · (intro w hSw; (try dsimp only at hSw); go_simp) <;> with_reducible rfl
  try simp only [Act.put, List.setIfInBounds_toArray, List.set_cons_zero, List.set_cons_succ]
  refine takeD (i := 22) (d := some 2) (v := ?_) _ rfl rfl (by kernel_rfl) (by kernel_rfl) (by kernel_rfl) (fun _ _ _ h => h) (by rfl) ?_ (by assumption) ?_
  rotate_left
  · (intro w hSw; (try dsimp only at hSw); go_simp) <;> with_reducible rfl
  try simp only [Act.put, List.setIfInBounds_toArray, List.set_cons_zero, List.set_cons_succ]
  refine wpAnyH_done (by kernel_rfl) ?_ _
  go_wp2_with fail
  go_ret
  have o1 : bits .or .u32 (x0 * 16777216) (x1 * 65536) = x0 * 16777216 + x1 * 65536 := bits_join .u32 32 (by decide) wraps_u32 24 _ _ (by omega) (by omega) (by omega) (by omega) (by omega) (by omega)
  have o2 : bits .or .u32 (x0 * 16777216 + x1 * 65536) (x2 * 256) = x0 * 16777216 + x1 * 65536 + x2 * 256 := bits_join .u32 32 (by decide) wraps_u32 16 _ _ (by omega) (by omega) (by omega) (by omega) (by omega) (by omega)
  have o3 : bits .or .u32 (x0 * 16777216 + x1 * 65536 + x2 * 256) x3 = x0 * 16777216 + x1 * 65536 + x2 * 256 + x3 := bits_join .u32 32 (by decide) wraps_u32 8 _ _ (by omega) (by omega) (by omega) (by omega) (by omega) (by omega)
  rw [o1, o2, o3] 
  exact ⟨rfl, hHeld.1⟩

/-- The word at the front. -/
def wordV (l : List Int) : Int := l.getD 0 0 * 16777216 + l.getD 1 0 * 65536 + l.getD 2 0 * 256 + l.getD 3 0
theorem toWord_any (A : Option Addr) (n c : Nat) (l : List Int) (w : World) (B : Nat) (h : Reads w B 1 A n (U l)) (hn : 4 ≤ n) (hy : Bytes l) :
    Calls Tryd.prog 43 #[.slice A n c] w fun e w' => e = .returned (.int .u32 (wordV l)) ∧ Below w.heap.size w w' := by
  obtain ⟨b, off, rfl, _, hlen, hc⟩ := place_of h (by omega)
  exact toWord_raw b off n c _ _ _ _ w hn (hc 0 (by omega)) (hc 1 (by omega)) (hc 2 (by omega)) (hc 3 (by omega)) (hy 0 (by omega)) (hy 1 (by omega)) (hy 2 (by omega)) (hy 3 (by omega))

/-- The sum. -/
def sumV (l : List Int) : Int := bits BinOp.xor IntKind.u32 4294967295 (crcL l)
theorem sumV_bd (l : List Int) : 0 ≤ sumV l ∧ sumV l ≤ 4294967295 := xor_bd _ _
theorem sum_all (A : Option Addr) (n c : Nat) (l : List Int) (w : World) (B : Nat) (h : Reads w B 1 A n (U l)) (hl : Laid w) (hy : Bytes l) (hn : n ≤ 1099511627776) :
    Calls Tryd.prog 31 #[.slice A n c] w fun e w' => e = .returned (.int .u32 (sumV l)) ∧ Below w.heap.size w w' := by
  rcases Nat.eq_zero_or_pos n with h0 | h0
  · subst h0
    have : l = [] := List.eq_nil_of_length_eq_zero (by have := h.1; simpa using this)
    subst this
    have e : sumV [] = 0 := by decide +kernel
    rw [e]
    exact sum_nil A c w
  · exact sum_any A n c l w B h hl h0 hy hn

theorem own_base {B B' n : Nat} {v : Value} {xs : List Value} {w : World} (h : w.ownsRow B 5 1 v n xs) (hB : B' ≤ B) : w.ownsRow B' 5 1 v n xs := by
  rcases h with ⟨h1, h2 | ⟨g, cap, cur, h2, h3, h4⟩⟩
  · exact ⟨h1, .inl h2⟩
  · exact ⟨h1, .inr ⟨g, cap, cur, h2, Nat.le_trans hB h3, h4⟩⟩
theorem seal_any (A : Option Addr) (n c : Nat) (l : List Int) (w : World) (h : Reads w w.heap.size 1 A n (U l)) (hl : Laid w) (hy : Bytes l) (hn : n ≤ 1048576) :
    Calls Tryd.prog 30 #[.slice A n c] w (Own w.heap.size w (n + 4) (l ++ wordB (sumV l))) := by
  have HB := sumV_bd l
  go_enter Tryd.func30, Tryd.ntmps30
  go_wp2_with fail
  refine (sum_all A n c l w _ h hl hy (by omega)).mono ?_
  rintro e w1 ⟨rfl, hb⟩
  obtain ⟨s, hs⟩ : ∃ s, Hid (sumV l = s) := ⟨_, rfl⟩
  rw [hs.out] at HB
  rw [hs.out]
  go_wp2_with fail
  refine (putWord_any A n c l s w1 ((h.below hb).more hb.size) hn HB.1 HB.2).mono ?_
  rintro e w2 ⟨A2, c2, rfl, ho2, hb2⟩
  go_wp2_with fail
  go_ret
  rw [hs.out]
  exact ⟨A2, c2, rfl, own_base ho2 hb.size, hb.trans (hb2.mono hb.size)⟩

theorem open_short (A : Option Addr) (n c : Nat) (w : World) (hn : n < 4) :
    Calls Tryd.prog 33 #[.slice A n c] w fun e w' => e = .returned (.tuple #[.slice none 0 0, .int .i64 4]) ∧ Below w.heap.size w w' := by
  go_enter Tryd.func33, Tryd.ntmps33
  go_wp2_with fail
  go_ret2
  exact ⟨rfl, Below.refl _ _⟩

theorem open_bad (b off n k c : Nat) (back front : List Int) (w : World) (hk : n = k + 4) (hn' : n ≤ 1048576) (hc : n ≤ c)
    (R1 : Reads w w.heap.size 1 (some ⟨b, off + k, none⟩) 4 (U back)) (R2 : Reads w w.heap.size 1 (some ⟨b, off, none⟩) k (U front)) (hl : Laid w) (y1 : Bytes back) (y2 : Bytes front) (hne : wordV back ≠ sumV front) :
    Calls Tryd.prog 33 #[.slice (some ⟨b, off, none⟩) n c] w fun e w' => e = .returned (.tuple #[.slice none 0 0, .int .i64 5]) ∧ Below w.heap.size w w' := by
  have nk : (n : Int) - 4 = (k : Int) := by omega
  have k0 : (0 : Int) ≤ (k : Int) := by omega
  have kn : (k : Int) ≤ (n : Int) := by omega
  have kc : (k : Int) ≤ (c : Int) := by omega
  have nk' : n - k = 4 := by omega
  have ck : ¬ c = k := by omega
  have k4 : ¬ (k : Int) < 0 := by omega
  have wk : wrap64 (k : Int) = (k : Int) := by unfold wrap64; omega
  have T := Lib.hid fun (W : World) (c : Nat) (h : Below w.heap.size w W) => toWord_any _ 4 c back W _ (R1.below h) (by omega) y1
  have S := Lib.hid fun (W : World) (c : Nat) (h : Below w.heap.size w W) => sum_all _ k c front W _ (R2.below h) (hl.later h) y2 (by omega)
  clear R1 R2 hl hk hn' hc
  obtain ⟨p, hp⟩ : ∃ p, wordV back = p := ⟨_, rfl⟩
  obtain ⟨q, hq⟩ : ∃ q, sumV front = q := ⟨_, rfl⟩
  rw [hp] at hne T
  rw [hq] at hne S
  have hne' : (p != q) = true := by simp [hne]
  go_enter Tryd.func33, Tryd.ntmps33
  go_wp2_with fail
  refine wp_region_held_drew (S := (fun w' => Below w.heap.size w w')) (by kernel_rfl) ?_ (fun hHeld => ?_)
  · exact (Below.refl _ _).drew
  refine takeD (i := 0) (d := some 10) (v := ?_) _ rfl rfl (by kernel_rfl) (by kernel_rfl) (by kernel_rfl) (fun _ _ _ h => h) (by rfl) ?_ (by assumption) ?_
  rotate_left
  · (intro w hSw; (try dsimp only at hSw); go_simp) <;> with_reducible rfl
  try simp only [Act.put, List.setIfInBounds_toArray, List.set_cons_zero, List.set_cons_succ]
  refine takeD (i := 1) (d := some 11) (v := ?_) _ rfl rfl (by kernel_rfl) (by kernel_rfl) (by kernel_rfl) (fun _ _ _ h => h) (by rfl) ?_ (by assumption) ?_
  rotate_left
  · (intro w hSw; (try dsimp only at hSw); go_simp) <;> with_reducible rfl
  try simp only [Act.put, List.setIfInBounds_toArray, List.set_cons_zero, List.set_cons_succ]
  refine takeD (i := 2) (d := some 12) (v := ?_) _ rfl rfl (by kernel_rfl) (by kernel_rfl) (by kernel_rfl) (fun _ _ _ h => h) (by rfl) ?_ (by assumption) ?_
  rotate_left
  · (intro w hSw; (try dsimp only at hSw); go_simp) <;> with_reducible rfl
  try simp only [Act.put, List.setIfInBounds_toArray, List.set_cons_zero, List.set_cons_succ]
  refine takeD (i := 4) (d := some 14) (v := ?_) _ rfl rfl (by kernel_rfl) (by kernel_rfl) (by kernel_rfl) (fun _ _ _ h => h) (by rfl) ?_ (by assumption) ?_
  rotate_left
  · (intro w hSw; (try dsimp only at hSw); go_simp) <;> with_reducible rfl
  try simp only [Act.put, List.setIfInBounds_toArray, List.set_cons_zero, List.set_cons_succ]
  refine takeD (i := 5) (d := some 15) (v := ?_) _ rfl rfl (by kernel_rfl) (by kernel_rfl) (by kernel_rfl) (fun _ _ _ h => h) (by rfl) ?_ (by assumption) ?_
  rotate_left
  · (intro w hSw; (try dsimp only at hSw); go_simp) <;> with_reducible rfl
  try simp only [Act.put, List.setIfInBounds_toArray, List.set_cons_zero, List.set_cons_succ]
  refine takeD (i := 6) (d := some 16) (v := ?_) _ rfl rfl (by kernel_rfl) (by kernel_rfl) (by kernel_rfl) (fun _ _ _ h => h) (by rfl) ?_ (by assumption) ?_
  rotate_left
  · (intro w hSw; (try dsimp only at hSw); go_simp) <;> with_reducible rfl
  try simp only [Act.put, List.setIfInBounds_toArray, List.set_cons_zero, List.set_cons_succ]
  refine wpAnyH_ready (rs := [3]) (by kernel_rfl) (by simp) ?_
  refine AllReadyH.cons rfl (fun K hK => ?_) AllReadyH.nil
  (go_simp; go_at_call 43; refine (T.out _ _ (by assumption)).mono ?_; rintro e w1 ⟨rfl, hb⟩; try go_wp2_with fail)
  refine hK.out _ _ ?_ (fun hHeld => ?_)
  · exact Below.trans (by assumption) (hb.mono (Below.size (by assumption)))
  clear hK K
  try simp only [Act.put, List.setIfInBounds_toArray, List.set_cons_zero, List.set_cons_succ]
  refine wpAnyH_ready (rs := [7]) (by kernel_rfl) (by simp) ?_
  refine AllReadyH.cons rfl (fun K hK => ?_) AllReadyH.nil
  (go_simp; go_at_call 31; refine (S.out _ _ (by assumption)).mono ?_; rintro e w2 ⟨rfl, hb⟩; try go_wp2_with fail)
  refine hK.out _ _ ?_ (fun hHeld => ?_)
  · exact Below.trans (by assumption) (hb.mono (Below.size (by assumption)))
  clear hK K
  try simp only [Act.put, List.setIfInBounds_toArray, List.set_cons_zero, List.set_cons_succ]
  refine takeD (i := 8) (d := some 18) (v := ?_) _ rfl rfl (by kernel_rfl) (by kernel_rfl) (by kernel_rfl) (fun _ _ _ h => h) (by rfl) ?_ (by assumption) ?_
  rotate_left
  · (intro w hSw; (try dsimp only at hSw); go_simp) <;> with_reducible rfl
  try simp only [Act.put, List.setIfInBounds_toArray, List.set_cons_zero, List.set_cons_succ]
  refine wpAnyH_done (by kernel_rfl) ?_ _
  go_wp2_with fail
  go_ret2
  exact ⟨rfl, by assumption⟩
theorem open_good (b off n k c : Nat) (back front : List Int) (w : World) (hk : n = k + 4) (hn' : n ≤ 1048576) (hc : n ≤ c)
    (R1 : Reads w w.heap.size 1 (some ⟨b, off + k, none⟩) 4 (U back)) (R2 : Reads w w.heap.size 1 (some ⟨b, off, none⟩) k (U front)) (hl : Laid w) (y1 : Bytes back) (y2 : Bytes front) (hne : wordV back = sumV front) :
    Calls Tryd.prog 33 #[.slice (some ⟨b, off, none⟩) n c] w fun e w' => ∃ A c', e = .returned (.tuple #[.slice A k c', .int .i64 0]) ∧ w'.ownsRow w.heap.size 5 1 (.slice A k c') k (U front) ∧ Below w.heap.size w w' := by
  have nk : (n : Int) - 4 = (k : Int) := by omega
  have k0 : (0 : Int) ≤ (k : Int) := by omega
  have kn : (k : Int) ≤ (n : Int) := by omega
  have kc : (k : Int) ≤ (c : Int) := by omega
  have nk' : n - k = 4 := by omega
  have ck : ¬ c = k := by omega
  have k4 : ¬ (k : Int) < 0 := by omega
  have wk : wrap64 (k : Int) = (k : Int) := by unfold wrap64; omega
  have T := Lib.hid fun (W : World) (c : Nat) (h : Below w.heap.size w W) => toWord_any _ 4 c back W _ (R1.below h) (by omega) y1
  have S := Lib.hid fun (W : World) (c : Nat) (h : Below w.heap.size w W) => sum_all _ k c front W _ (R2.below h) (hl.later h) y2 (by omega)
  have F := Lib.hid fun (W : World) (c : Nat) (h : Below w.heap.size w W) => fresh_any _ k c 0 front W ((R2.below h).more h.size) (by omega)
  clear R1 R2 hl hk hn' hc
  obtain ⟨p, hp⟩ : ∃ p, wordV back = p := ⟨_, rfl⟩
  obtain ⟨q, hq⟩ : ∃ q, sumV front = q := ⟨_, rfl⟩
  rw [hp] at hne T
  rw [hq] at hne S
  subst hne
  go_enter Tryd.func33, Tryd.ntmps33
  go_wp2_with fail
  refine wp_region_held_drew (S := (fun w' => Below w.heap.size w w')) (by kernel_rfl) ?_ (fun hHeld => ?_)
  · exact (Below.refl _ _).drew
  refine takeD (i := 0) (d := some 10) (v := ?_) _ rfl rfl (by kernel_rfl) (by kernel_rfl) (by kernel_rfl) (fun _ _ _ h => h) (by rfl) ?_ (by assumption) ?_
  rotate_left
  · (intro w hSw; (try dsimp only at hSw); go_simp) <;> with_reducible rfl
  try simp only [Act.put, List.setIfInBounds_toArray, List.set_cons_zero, List.set_cons_succ]
  refine takeD (i := 1) (d := some 11) (v := ?_) _ rfl rfl (by kernel_rfl) (by kernel_rfl) (by kernel_rfl) (fun _ _ _ h => h) (by rfl) ?_ (by assumption) ?_
  rotate_left
  · (intro w hSw; (try dsimp only at hSw); go_simp) <;> with_reducible rfl
  try simp only [Act.put, List.setIfInBounds_toArray, List.set_cons_zero, List.set_cons_succ]
  refine takeD (i := 2) (d := some 12) (v := ?_) _ rfl rfl (by kernel_rfl) (by kernel_rfl) (by kernel_rfl) (fun _ _ _ h => h) (by rfl) ?_ (by assumption) ?_
  rotate_left
  · (intro w hSw; (try dsimp only at hSw); go_simp) <;> with_reducible rfl
  try simp only [Act.put, List.setIfInBounds_toArray, List.set_cons_zero, List.set_cons_succ]
  refine takeD (i := 4) (d := some 14) (v := ?_) _ rfl rfl (by kernel_rfl) (by kernel_rfl) (by kernel_rfl) (fun _ _ _ h => h) (by rfl) ?_ (by assumption) ?_
  rotate_left
  · (intro w hSw; (try dsimp only at hSw); go_simp) <;> with_reducible rfl
  try simp only [Act.put, List.setIfInBounds_toArray, List.set_cons_zero, List.set_cons_succ]
  refine takeD (i := 5) (d := some 15) (v := ?_) _ rfl rfl (by kernel_rfl) (by kernel_rfl) (by kernel_rfl) (fun _ _ _ h => h) (by rfl) ?_ (by assumption) ?_
  rotate_left
  · (intro w hSw; (try dsimp only at hSw); go_simp) <;> with_reducible rfl
  try simp only [Act.put, List.setIfInBounds_toArray, List.set_cons_zero, List.set_cons_succ]
  refine takeD (i := 6) (d := some 16) (v := ?_) _ rfl rfl (by kernel_rfl) (by kernel_rfl) (by kernel_rfl) (fun _ _ _ h => h) (by rfl) ?_ (by assumption) ?_
  rotate_left
  · (intro w hSw; (try dsimp only at hSw); go_simp) <;> with_reducible rfl
  try simp only [Act.put, List.setIfInBounds_toArray, List.set_cons_zero, List.set_cons_succ]
  refine wpAnyH_ready (rs := [3]) (by kernel_rfl) (by simp) ?_
  refine AllReadyH.cons rfl (fun K hK => ?_) AllReadyH.nil
  (go_simp; go_at_call 43; refine (T.out _ _ (by assumption)).mono ?_; rintro e w1 ⟨rfl, hb⟩; try go_wp2_with fail)
  refine hK.out _ _ ?_ (fun hHeld => ?_)
  · exact Below.trans (by assumption) (hb.mono (Below.size (by assumption)))
  clear hK K
  try simp only [Act.put, List.setIfInBounds_toArray, List.set_cons_zero, List.set_cons_succ]
  refine wpAnyH_ready (rs := [7]) (by kernel_rfl) (by simp) ?_
  refine AllReadyH.cons rfl (fun K hK => ?_) AllReadyH.nil
  (go_simp; go_at_call 31; refine (S.out _ _ (by assumption)).mono ?_; rintro e w2 ⟨rfl, hb⟩; try go_wp2_with fail)
  refine hK.out _ _ ?_ (fun hHeld => ?_)
  · exact Below.trans (by assumption) (hb.mono (Below.size (by assumption)))
  clear hK K
  try simp only [Act.put, List.setIfInBounds_toArray, List.set_cons_zero, List.set_cons_succ]
  refine takeD (i := 8) (d := some 18) (v := ?_) _ rfl rfl (by kernel_rfl) (by kernel_rfl) (by kernel_rfl) (fun _ _ _ h => h) (by rfl) ?_ (by assumption) ?_
  rotate_left
  · (intro w hSw; (try dsimp only at hSw); go_simp) <;> with_reducible rfl
  try simp only [Act.put, List.setIfInBounds_toArray, List.set_cons_zero, List.set_cons_succ]
  refine wpAnyH_done (by kernel_rfl) ?_ _
  go_wp2_with fail
  have HB : Below w.heap.size w w2 := by assumption
  refine (F.out _ _ HB).mono ?_
  rintro e w3 ⟨A3, c3, rfl, ho3, hb3⟩
  go_wp2_with fail
  go_ret2
  exact ⟨A3, c3, rfl, own_base ho3 HB.size, HB.trans (hb3.mono HB.size)⟩

/-- A row cut in two. -/
theorem Reads.front {w : World} {B n : Nat} {A : Option Addr} {l : List Int} (h : Reads w B 1 A n (U l)) (k : Nat) (hk : k ≤ n) : Reads w B 1 A k (U (l.take k)) := by
  have hl : l.length = n := by have := h.1; simpa using this
  refine ⟨by simp; omega, fun hn => ?_⟩
  obtain ⟨ad, e, hb, hc⟩ := h.2 (by omega)
  refine ⟨ad, e, hb, fun j u hu => hc j u ?_⟩
  rw [← hu]
  have hj : j < k := by
    have := (List.getElem?_eq_some_iff.mp hu).1
    simp at this; omega
  simp [U, List.getElem?_take, hj]
theorem Reads.back {w : World} {B n b off : Nat} {l : List Int} (h : Reads w B 1 (some ⟨b, off, none⟩) n (U l)) (k : Nat) (hk : k ≤ n) : Reads w B 1 (some ⟨b, off + k, none⟩) (n - k) (U (l.drop k)) := by
  have hl : l.length = n := by have := h.1; simpa using this
  refine ⟨by simp; omega, fun hn => ?_⟩
  obtain ⟨ad, e, hb, hc⟩ := h.2 (by omega)
  injection e with e
  subst e
  refine ⟨_, rfl, hb, fun j u hu => ?_⟩
  have := hc (k + j) u (by rw [← hu]; simp [U, List.getElem?_drop])
  rw [Addr.add_lit] at this ⊢
  rwa [Nat.add_assoc]
theorem bytes_take {l : List Int} (h : Bytes l) (k : Nat) : Bytes (l.take k) := by
  intro i hi
  have h1 : i < k := by simp at hi; omega
  have h2 : i < l.length := by simp at hi; omega
  have := h i h2
  simpa [List.getD_eq_getElem?_getD, List.getElem?_take, h1] using this
theorem bytes_drop {l : List Int} (h : Bytes l) (k : Nat) : Bytes (l.drop k) := by
  intro i hi
  have := h (k + i) (by simp at hi; omega)
  simpa [List.getD_eq_getElem?_getD, List.getElem?_drop] using this

/-- What is opened: the error; what is ahead of the sum. -/
def openE (l : List Int) : Int := if l.length < 4 then 4 else if wordV (l.drop (l.length - 4)) = sumV (l.take (l.length - 4)) then 0 else 5
def openL (l : List Int) : List Int := if openE l = 0 then l.take (l.length - 4) else []
theorem open_any (A : Option Addr) (n c : Nat) (l : List Int) (w : World) (h : Reads w w.heap.size 1 A n (U l)) (hl : Laid w) (hy : Bytes l) (hn : n ≤ 1048576) (hc : n ≤ c) :
    Calls Tryd.prog 33 #[.slice A n c] w fun e w' => ∃ A' c', e = .returned (.tuple #[.slice A' (openL l).length c', .int .i64 (openE l)]) ∧ w'.ownsRow w.heap.size 5 1 (.slice A' (openL l).length c') (openL l).length (U (openL l)) ∧ Below w.heap.size w w' := by
  have hlen : l.length = n := by have := h.1; simpa using this
  by_cases h4 : n < 4
  · have e1 : openE l = 4 := by unfold openE; rw [if_pos (by omega)]
    have e2 : openL l = [] := by unfold openL; rw [if_neg (by omega)]
    rw [e1, e2]
    refine (open_short A n c w h4).mono ?_
    rintro e w1 ⟨rfl, hb⟩
    exact ⟨none, 0, rfl, ⟨by simp, .inl ⟨rfl, rfl⟩⟩, hb⟩
  · obtain ⟨b, off, rfl, _, _, _⟩ := place_of h (by omega)
    have R1 := h.back (n - 4) (by omega)
    have R2 := h.front (n - 4) (by omega)
    rw [show n - (n - 4) = 4 by omega] at R1
    by_cases he : wordV (l.drop (n - 4)) = sumV (l.take (n - 4))
    · have e1 : openE l = 0 := by unfold openE; rw [if_neg (by omega), hlen, if_pos he]
      have e2 : openL l = l.take (n - 4) := by unfold openL; rw [if_pos e1, hlen]
      have e3 : (l.take (n - 4)).length = n - 4 := by simp; omega
      rw [e1, e2, e3]
      exact open_good b off n (n - 4) c _ _ w (by omega) hn hc R1 R2 hl (bytes_drop hy _) (bytes_take hy _) he
    · have e1 : openE l = 5 := by unfold openE; rw [if_neg (by omega), hlen, if_neg he]
      have e2 : openL l = [] := by unfold openL; rw [if_neg (by omega)]
      rw [e1, e2]
      refine (open_bad b off n (n - 4) c _ _ w (by omega) hn hc R1 R2 hl (bytes_drop hy _) (bytes_take hy _) he).mono ?_
      rintro e w1 ⟨rfl, hb⟩
      exact ⟨none, 0, rfl, ⟨by simp, .inl ⟨rfl, rfl⟩⟩, hb⟩
end Go.Proofs.YthcegmijphbhgaaDoor
