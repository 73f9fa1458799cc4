/-
  The contracts of the model's Number and String. Each statement bears its own conditions.
-/
import Derived.Test.YthcegmijphbhgaaDoorRText
namespace Go.Proofs.YthcegmijphbhgaaDoor
open Go.RowKit
set_option linter.unusedSimpArgs false
set_option linter.unusedVariables false
theorem rnum_err (A : Option Addr) (n c : Nat) (at_ er m : Int) (w : World) (he : er ≠ 0) :
    Calls Tryd.prog 24 #[.agg #[.slice A n c, .int .i64 at_, .int .i64 er], .int .u64 m] w fun e w' => e = .returned (.tuple #[.agg #[.slice A n c, .int .i64 at_, .int .i64 er], .int .u64 0]) ∧ Below w.heap.size w w' := by
  go_enter Tryd.func24, Tryd.ntmps24
  go_wp2_with fail
  exact bodyPost_ret (v := .tuple #[.agg #[.slice A n c, .int .i64 at_, .int .i64 er], .int .u64 0]) (by simp [results, Tryd.results24, go_sem]) rfl ⟨rfl, by repeat (first | exact Below.refl _ _ | apply Below.drew | refine Below.alloc ?_ (by simp; try omega) _ | refine Below.setCell ?_ (by simp; try omega) _)⟩
/-- The cells of the two boxes behind a call. -/
theorem boxes (w w1 : World) (A : Option Addr) (n c : Nat) (at_ er : Int) (b1 : Below ((w.alloc (.cells #[.slice A n c, .int .i64 at_, .int .i64 er] 39)).alloc (.cells #[.slice none 0 0, .int .i64 0, .int .i64 0] 39)).heap.size ((w.alloc (.cells #[.slice A n c, .int .i64 at_, .int .i64 er] 39)).alloc (.cells #[.slice none 0 0, .int .i64 0, .int .i64 0] 39)) w1) :
    Below w.heap.size w w1 ∧ w.heap.size + 2 ≤ w1.heap.size ∧ (w1.cell? ⟨w.heap.size, 0, none⟩ = some (.slice A n c) ∧ w1.cell? ⟨w.heap.size, 1, none⟩ = some (.int .i64 at_) ∧ w1.cell? ⟨w.heap.size, 2, none⟩ = some (.int .i64 er) ∧ ∀ o, w1.frozen? ⟨w.heap.size, o, none⟩ = false) ∧
      (w1.cell? ⟨w.heap.size + 1, 0, none⟩ = some (.slice none 0 0) ∧ w1.cell? ⟨w.heap.size + 1, 1, none⟩ = some (.int .i64 0) ∧ w1.cell? ⟨w.heap.size + 1, 2, none⟩ = some (.int .i64 0) ∧ ∀ o, w1.frozen? ⟨w.heap.size + 1, o, none⟩ = false) := by
  obtain ⟨W2, hW2⟩ : ∃ W2, ((w.alloc (.cells #[.slice A n c, .int .i64 at_, .int .i64 er] 39)).alloc (.cells #[.slice none 0 0, .int .i64 0, .int .i64 0] 39)) = W2 := ⟨_, rfl⟩
  have BW : Below w.heap.size w W2 := by rw [← hW2]; exact ((Below.refl _ _).alloc (Nat.le_refl _) _).alloc (by simp) _
  have hs : W2.heap.size = w.heap.size + 2 := by rw [← hW2]; simp
  have e1 : w.heap.size + 1 = (w.alloc (.cells #[.slice A n c, .int .i64 at_, .int .i64 er] 39)).heap.size := by simp
  have k0 : W2.heap[w.heap.size]? = (w.alloc (.cells #[.slice A n c, .int .i64 at_, .int .i64 er] 39)).heap[w.heap.size]? := by rw [← hW2]; exact Below.heap_alloc _ _ _ (by simp)
  have r0 : W2.cell? ⟨w.heap.size, 0, none⟩ = some (.slice A n c) := (World.cell?_of_block (a := ⟨w.heap.size, 0, none⟩) k0).trans (by rw [World.cell?_alloc_new]; rfl)
  have r1 : W2.cell? ⟨w.heap.size, 1, none⟩ = some (.int .i64 at_) := (World.cell?_of_block (a := ⟨w.heap.size, 1, none⟩) k0).trans (by rw [World.cell?_alloc_new]; rfl)
  have r2 : W2.cell? ⟨w.heap.size, 2, none⟩ = some (.int .i64 er) := (World.cell?_of_block (a := ⟨w.heap.size, 2, none⟩) k0).trans (by rw [World.cell?_alloc_new]; rfl)
  have rf : ∀ o, W2.frozen? ⟨w.heap.size, o, none⟩ = false := fun o => (World.frozen?_of_block (a := ⟨w.heap.size, o, none⟩) k0).trans (by simp)
  have d0 : W2.cell? ⟨w.heap.size + 1, 0, none⟩ = some (.slice none 0 0) := by rw [← hW2, e1, World.cell?_alloc_new]; rfl
  have d1 : W2.cell? ⟨w.heap.size + 1, 1, none⟩ = some (.int .i64 0) := by rw [← hW2, e1, World.cell?_alloc_new]; rfl
  have d2 : W2.cell? ⟨w.heap.size + 1, 2, none⟩ = some (.int .i64 0) := by rw [← hW2, e1, World.cell?_alloc_new]; rfl
  have df : ∀ o, W2.frozen? ⟨w.heap.size + 1, o, none⟩ = false := fun o => by rw [← hW2, e1]; simp
  rw [hW2] at b1
  refine ⟨BW.trans (b1.mono BW.size), by have := b1.size; omega, ⟨cell_later b1 r0, cell_later b1 r1, cell_later b1 r2, fun o => (World.frozen?_of_block (a := ⟨w.heap.size, o, none⟩) (b1.block _ (by show w.heap.size < W2.heap.size; rw [hs]; omega))).trans (rf o)⟩, cell_later b1 d0, cell_later b1 d1, cell_later b1 d2, fun o => (World.frozen?_of_block (a := ⟨w.heap.size + 1, o, none⟩) (b1.block _ (by show w.heap.size + 1 < W2.heap.size; rw [hs]; omega))).trans (df o)⟩
theorem rnum_ok (A : Option Addr) (n c at_ : Nat) (m : Int) (l : List Int) (w : World) (h : Reads w w.heap.size 1 A n (U l)) (hl : l.length = n) (hy : Bytes l) (hn : n ≤ 1048576) (hc : n ≤ c) (ha : at_ ≤ n) :
    Calls Tryd.prog 24 #[.agg #[.slice A n c, .int .i64 (at_ : Int), .int .i64 0], .int .u64 m] w fun e w' => e = .returned (.tuple #[.agg #[.slice A n c, .int .i64 ((at_ + boundK m (l.drop at_) : Nat) : Int), .int .i64 (boundR m (l.drop at_))], .int .u64 (boundV m (l.drop at_))]) ∧ Below w.heap.size w w' := by
  have hle := boundK_le m (l.drop at_)
  have hz := bound_zero m (l.drop at_)
  obtain ⟨v, hv⟩ : ∃ v, numV (l.drop at_) = v := ⟨_, rfl⟩
  obtain ⟨k, hk⟩ : ∃ k, numK (l.drop at_) = k := ⟨_, rfl⟩
  obtain ⟨r, hr⟩ : ∃ r, numR (l.drop at_) = r := ⟨_, rfl⟩
  have hz' := num_zero (l.drop at_)
  have hkl := numK_le (l.drop at_)
  obtain ⟨d, hd⟩ : ∃ d, n - at_ = d := ⟨_, rfl⟩
  obtain ⟨g, hg⟩ : ∃ g, c - at_ = g := ⟨_, rfl⟩
  obtain ⟨A1, hA1⟩ : ∃ A1, (if c = at_ then A else A.map (fun x => x.add at_)) = A1 := ⟨_, rfl⟩
  have RD : Reads w w.heap.size 1 A1 d (U (l.drop at_)) := by
    have := h.cut (k := at_) (cap := c) ha hc
    simp only [Nat.mul_one, U, ← List.map_drop] at this
    rw [hA1, hd] at this; exact this
  have NUM := Lib.hid fun (W : World) (hb : Below w.heap.size w W) => number_any A1 d g (l.drop at_) W ((RD.below hb).more hb.size) (by rw [List.length_drop, hl, hd]) (bytes_drop hy at_) (by omega)
  rw [hv, hk, hr] at NUM
  unfold boundV boundK boundR
  rw [hv, hk, hr] at hz' ⊢
  rw [hk, List.length_drop, hl] at hkl
  have BA : Below w.heap.size w ((w.alloc (.cells #[.slice A n c, .int .i64 (at_ : Int), .int .i64 0] 39)).alloc (.cells #[.slice none 0 0, .int .i64 0, .int .i64 0] 39)) := ((Below.refl _ _).alloc (Nat.le_refl _) _).alloc (by simp) _
  have N0 := Lib.hid (NUM.out _ BA)
  have s0 : (at_ : Int) ≤ (n : Int) := by omega
  have s1 : (at_ : Int) ≤ (c : Int) := by omega
  clear hle hz NUM BA RD h hl hy hv hk hr
  by_cases hr0 : r = 0
  · subst hr0
    by_cases hm : m < v
    · simp only [true_and, if_pos hm, Nat.add_zero]
      clear hz'
      go_enter Tryd.func24, Tryd.ntmps24
      go_wp2_with fail
      refine N0.out.mono ?_
      rintro e w1 ⟨rfl, b1⟩
      obtain ⟨BW, hs, ⟨r0, r1, r2, rf⟩, z0, z1, z2, zf⟩ := boxes w w1 A n c (at_ : Int) 0 b1
      clear N0 b1 hA1 hd hg
      go_wp2_with fail
      refine (rfail_any A n c _ _ 2 _).mono ?_
      rintro e w2 ⟨rfl, b2⟩
      have BW2 := BW.trans (b2.mono BW.size)
      have y0 := cell_later b2 z0
      have y1 := cell_later b2 z1
      have y2 := cell_later b2 z2
      have yf : ∀ o, w2.frozen? ⟨w.heap.size + 1, o, none⟩ = false := fun o => (World.frozen?_of_block (a := ⟨w.heap.size + 1, o, none⟩) (b2.block _ (by show w.heap.size + 1 < w1.heap.size; omega))).trans (zf o)
      clear r0 r1 r2 rf z0 z1 z2 zf b2 BW hs
      go_wp2_with fail
      exact bodyPost_ret (v := .tuple #[.agg #[.slice A n c, .int .i64 (at_ : Int), .int .i64 2], .int .u64 0]) (by simp [results, Tryd.results24, go_sem, y0, y1, y2]) rfl ⟨rfl, ((BW2.setCell (by simp) _).setCell (by simp) _).setCell (by simp) _⟩
    · simp only [true_and, if_neg hm]
      have wk : IntKind.i64.wrap ((at_ : Int) + (k : Int)) = (at_ : Int) + (k : Int) := by rw [IntKind.wrap_i64]; omega
      clear hz'
      go_enter Tryd.func24, Tryd.ntmps24
      go_wp2_with fail
      refine N0.out.mono ?_
      rintro e w1 ⟨rfl, b1⟩
      obtain ⟨BW, hs, ⟨r0, r1, r2, rf⟩, z0, z1, z2, zf⟩ := boxes w w1 A n c (at_ : Int) 0 b1
      clear N0 b1 hA1 hd hg
      go_wp2_with fail
      exact bodyPost_ret (v := .tuple #[.agg #[.slice A n c, .int .i64 ((at_ + k : Nat) : Int), .int .i64 0], .int .u64 v]) (by simp [results, Tryd.results24, go_sem, r0, r1, r2, z0, z1, z2]) rfl ⟨rfl, (((BW.setCell (Nat.le_refl _) _).setCell (by simp) _).setCell (by simp) _).setCell (by simp) _⟩
  · obtain ⟨rfl, rfl⟩ := hz' hr0
    simp only [if_neg (show ¬ (r = 0 ∧ m < 0) from fun hh => hr0 hh.1), Nat.add_zero]
    clear hz'
    go_enter Tryd.func24, Tryd.ntmps24
    go_wp2_with fail
    refine N0.out.mono ?_
    rintro e w1 ⟨rfl, b1⟩
    obtain ⟨BW, hs, ⟨r0, r1, r2, rf⟩, z0, z1, z2, zf⟩ := boxes w w1 A n c (at_ : Int) 0 b1
    clear N0 b1 hA1 hd hg
    go_wp2_with fail
    refine (rfail_any A n c _ _ r _).mono ?_
    rintro e w2 ⟨rfl, b2⟩
    have BW2 := BW.trans (b2.mono BW.size)
    have y0 := cell_later b2 z0
    have y1 := cell_later b2 z1
    have y2 := cell_later b2 z2
    have yf : ∀ o, w2.frozen? ⟨w.heap.size + 1, o, none⟩ = false := fun o => (World.frozen?_of_block (a := ⟨w.heap.size + 1, o, none⟩) (b2.block _ (by show w.heap.size + 1 < w1.heap.size; omega))).trans (zf o)
    clear r0 r1 r2 rf z0 z1 z2 zf b2 BW hs
    go_wp2_with fail
    exact bodyPost_ret (v := .tuple #[.agg #[.slice A n c, .int .i64 (at_ : Int), .int .i64 r], .int .u64 0]) (by simp [results, Tryd.results24, go_sem, y0, y1, y2]) rfl ⟨rfl, ((BW2.setCell (by simp) _).setCell (by simp) _).setCell (by simp) _⟩
/-- A struct of three cells in a block of its own. -/
structure Bx (w : World) (b : Nat) (v0 v1 v2 : Value) : Prop where
  lt : b < w.heap.size
  c0 : w.cell? ⟨b, 0, none⟩ = some v0
  c1 : w.cell? ⟨b, 1, none⟩ = some v1
  c2 : w.cell? ⟨b, 2, none⟩ = some v2
  fz : ∀ o, w.frozen? ⟨b, o, none⟩ = false
theorem Bx.of_block {w w' : World} {b : Nat} {v0 v1 v2 : Value} (h : Bx w b v0 v1 v2) (hs : w.heap.size ≤ w'.heap.size) (hb : w'.heap[b]? = w.heap[b]?) : Bx w' b v0 v1 v2 :=
  ⟨Nat.lt_of_lt_of_le h.lt hs, (World.cell?_of_block (a := ⟨b, 0, none⟩) hb).trans h.c0, (World.cell?_of_block (a := ⟨b, 1, none⟩) hb).trans h.c1, (World.cell?_of_block (a := ⟨b, 2, none⟩) hb).trans h.c2, fun o => (World.frozen?_of_block (a := ⟨b, o, none⟩) hb).trans (h.fz o)⟩
theorem Bx.below {w w' : World} {b : Nat} {v0 v1 v2 : Value} (h : Bx w b v0 v1 v2) (hb : Below w.heap.size w w') : Bx w' b v0 v1 v2 := h.of_block hb.size (hb.block b h.lt)
theorem Bx.past {w w' : World} {b x : Nat} {v0 v1 v2 : Value} (h : Bx w b v0 v1 v2) (hb : Past x w w') (hx : b ≠ x) : Bx w' b v0 v1 v2 := h.of_block hb.size (hb.block b h.lt hx)
theorem Past.alloc {x : Nat} {w w' : World} (h : Past x w w') (o : Obj) : Past x w (w'.alloc o) :=
  ⟨h.os, h.tape, h.output, by have := h.size; simp; omega, fun k hk hx => (Below.heap_alloc _ _ _ (Nat.lt_of_lt_of_le hk h.size)).trans (h.block k hk hx)⟩
theorem Past.drew {x : Nat} {w w' : World} (h : Past x w w') : Past x w w'.drew := ⟨h.os, h.tape, h.output, h.size, h.block⟩
theorem reads_past {w W : World} {base n c x : Nat} {A : Option Addr} {xs : List Value} (h : w.ownsRow base 5 1 (.slice A n c) n xs) (p : Past x w W) (hx : x < base) : Reads W W.heap.size 1 A n xs := by
  refine ⟨by simpa using h.1, fun hn => ?_⟩
  obtain ⟨g, cap, hv, hg, hlt⟩ := h.form hn
  have hA : A = some ⟨g, 0, none⟩ := by injection hv
  subst hA
  have hb := p.block g hlt (by omega)
  refine ⟨_, rfl, Nat.lt_of_lt_of_le hlt p.size, fun j u hu => ?_⟩
  exact (World.cell?_of_block (by rw [block_of_add]; exact hb)).trans (h.cells (g := g) rfl j u hu)
theorem Bx.alloc {w : World} {b : Nat} {v0 v1 v2 : Value} (h : Bx w b v0 v1 v2) (o : Obj) : Bx (w.alloc o) b v0 v1 v2 := h.below ((Below.refl _ _).alloc (Nat.le_refl _) o)
theorem Bx.new (w : World) (v0 v1 v2 : Value) (ty : TypeId) : Bx (w.alloc (.cells #[v0, v1, v2] ty)) w.heap.size v0 v1 v2 :=
  ⟨by simp, by rw [World.cell?_alloc_new]; rfl, by rw [World.cell?_alloc_new]; rfl, by rw [World.cell?_alloc_new]; rfl, fun o => by simp⟩
theorem bound_most (m : Int) (L : List Int) (h : boundR m L = 0) : boundV m L ≤ m := by
  unfold boundR at h
  unfold boundV
  split at h
  · cases h
  · next hh =>
    rw [if_neg hh]
    rcases Int.lt_or_le m (numV L) with h1 | h1
    · exact absurd ⟨h, h1⟩ hh
    · exact h1
theorem rstr_ok (A : Option Addr) (n c at_ : Nat) (m : Int) (l : List Int) (w : World) (hm : m ≤ 9223372036854775807) (h : Reads w w.heap.size 1 A n (U l)) (hl : l.length = n) (hy : Bytes l) (hn : n ≤ 1048576) (hc : n ≤ c) (ha : at_ ≤ n) :
    Calls Tryd.prog 26 #[.agg #[.slice A n c, .int .i64 (at_ : Int), .int .i64 0], .int .i64 m] w fun e w' => e = .returned (.tuple #[.agg #[.slice A n c, .int .i64 ((at_ + textK m (l.drop at_) : Nat) : Int), .int .i64 (textR m (l.drop at_))], .string (textV m (l.drop at_))]) ∧ Below w.heap.size w w' := by
  have NUM := Lib.hid fun (W : World) (hb : Below w.heap.size w W) => rnum_ok A n c at_ (mostM m) l W ((h.below hb).more hb.size) hl hy hn hc ha
  have BA : Below w.heap.size w ((w.alloc (.cells #[.slice A n c, .int .i64 (at_ : Int), .int .i64 0] 39)).alloc (.cells #[.slice none 0 0, .int .i64 0, .int .i64 0] 39)) := ((Below.refl _ _).alloc (Nat.le_refl _) _).alloc (by simp) _
  have N0 := Lib.hid (NUM.out _ BA)
  have hbm := bound_most (mostM m) (l.drop at_)
  have hkl := boundK_le (mostM m) (l.drop at_)
  have hv0 := boundV_pos (mostM m) (l.drop at_)
  have hM : mostM m ≤ 9223372036854775807 := by unfold mostM; omega
  have hz := text_zero m (l.drop at_)
  have TR : textR m (l.drop at_) = if boundR (mostM m) (l.drop at_) ≠ 0 then boundR (mostM m) (l.drop at_) else if ((l.drop at_).length : Int) - (boundK (mostM m) (l.drop at_) : Int) < boundV (mostM m) (l.drop at_) then 4 else 0 := rfl
  have TK : textK m (l.drop at_) = if textR m (l.drop at_) = 0 then boundK (mostM m) (l.drop at_) + (boundV (mostM m) (l.drop at_)).toNat else 0 := rfl
  have TV : textV m (l.drop at_) = strOfNums (if textR m (l.drop at_) = 0 then ((l.drop at_).drop (boundK (mostM m) (l.drop at_))).take (boundV (mostM m) (l.drop at_)).toNat else []) := rfl
  have hLD : (l.drop at_).length = n - at_ := by rw [List.length_drop, hl]
  obtain ⟨v, hv⟩ : ∃ v, boundV (mostM m) (l.drop at_) = v := ⟨_, rfl⟩
  obtain ⟨k, hk⟩ : ∃ k, boundK (mostM m) (l.drop at_) = k := ⟨_, rfl⟩
  obtain ⟨r, hr⟩ : ∃ r, boundR (mostM m) (l.drop at_) = r := ⟨_, rfl⟩
  obtain ⟨tr, htr⟩ : ∃ tr, textR m (l.drop at_) = tr := ⟨_, rfl⟩
  obtain ⟨tk, htk⟩ : ∃ tk, textK m (l.drop at_) = tk := ⟨_, rfl⟩
  obtain ⟨tv, htv⟩ : ∃ tv, textV m (l.drop at_) = tv := ⟨_, rfl⟩
  rw [hv] at N0 hbm hv0 TR TK TV
  rw [hk] at N0 hkl TR TK TV
  rw [hr] at N0 hbm TR
  rw [htr] at hz TR TK TV ⊢
  rw [htk] at hz TK ⊢
  rw [htv] at hz TV ⊢
  rw [hLD] at hkl TR
  obtain ⟨v, rfl⟩ := Int.eq_ofNat_of_zero_le hv0
  rw [Int.toNat_natCast] at TK TV
  have Hh := Lib.hid h
  have HL := Lib.hid hl
  have HN := Lib.hid hn
  have hm1 : m < 18446744073709551616 := by omega
  clear hm
  have hm := hm1
  clear hm1
  by_cases hr0 : r = 0
  · subst hr0
    have hvM : (v : Int) ≤ 9223372036854775807 := by have := hbm rfl; omega
    have wv : IntKind.i64.wrap (v : Int) = (v : Int) := by rw [IntKind.wrap_i64]; omega
    rw [if_neg (by simp)] at TR
    by_cases hsh : ((n - at_ : Nat) : Int) - (k : Int) < (v : Int)
    · rw [if_pos hsh] at TR
      subst TR
      obtain ⟨rfl, rfl⟩ := hz (by omega)
      have TS := Lib.hid fun (W : World) => rtake_short A n c (at_ + k) v W hn (by omega) (by omega)
      simp only [Int.natCast_add] at TS
      clear hz TK TV NUM BA h hl hy hn hv hk hr htr htk htv hbm hkl hv0 hM hLD hvM
      rcases Int.lt_or_le m 0 with hm0 | hm0
      · have eM : mostM m = 0 := by unfold mostM; omega
        rw [eM] at N0
        clear eM
        go_enter Tryd.func26, Tryd.ntmps26
        go_wp2_with fail
        refine N0.out.mono ?_
        rintro e w1 ⟨rfl, b1⟩
        obtain ⟨BW, hs, ⟨r0, r1, r2, rf⟩, z0, z1, z2, zf⟩ := boxes w w1 A n c (at_ : Int) 0 b1
        clear N0 b1
        have hs0 : w.heap.size < w1.heap.size := by omega
        have hs1 : w.heap.size + 1 < w1.heap.size := by omega
        have Z : Bx w1 (w.heap.size + 1) (.slice none 0 0) (.int .i64 0) (.int .i64 0) := ⟨hs1, z0, z1, z2, zf⟩
        have R : Bx w1 w.heap.size (.slice A n c) (.int .i64 (at_ : Int)) (.int .i64 0) := ⟨hs0, r0, r1, r2, rf⟩
        have HZ := Lib.hid Z
        have HR := Lib.hid R
        clear Z R
        go_wp2_with fail
        have BA1 : Below w.heap.size w (w1.alloc (.cells #[.slice A n c, .int .i64 ((at_ : Int) + (k : Int)), .int .i64 0] 39)) := BW.alloc (by omega) _
        refine (TS.out _).mono ?_
        rintro e w2 ⟨rfl, b2⟩
        have Z2 := (HZ.out.alloc (.cells #[.slice A n c, .int .i64 ((at_ : Int) + (k : Int)), .int .i64 0] 39)).below b2
        have R2 := (HR.out.alloc (.cells #[.slice A n c, .int .i64 ((at_ : Int) + (k : Int)), .int .i64 0] 39)).below b2
        have B2 := BA1.trans (b2.mono BA1.size)
        have HZ2 := Lib.hid Z2
        have q0 := R2.c0
        have q1 := R2.c1
        have q2 := R2.c2
        have hs2 : w.heap.size < w2.heap.size := R2.lt
        clear r0 r1 r2 rf z0 z1 z2 zf Z2 R2 HZ HR b2 BA1 BW TS
        go_wp2_with fail
        have BA2 : Below w.heap.size w (w2.alloc (.cells #[.slice A n c, .int .i64 ((at_ : Int) + (k : Int)), .int .i64 4] 39)) := B2.alloc (by omega) _
        refine (rfail_any A n c _ _ 4 _).mono ?_
        rintro e w3 ⟨rfl, b3⟩
        have B3 := BA2.trans (b3.mono BA2.size)
        have Z3 := (HZ2.out.alloc (.cells #[.slice A n c, .int .i64 ((at_ : Int) + (k : Int)), .int .i64 4] 39)).below b3
        have y0 := Z3.c0
        have y1 := Z3.c1
        have y2 := Z3.c2
        have yf := Z3.fz
        clear Z3 HZ2 q0 q1 q2 b3
        go_wp2_with fail
        exact bodyPost_ret (v := .tuple #[.agg #[.slice A n c, .int .i64 (at_ : Int), .int .i64 4], .string ⟨#[]⟩]) (by simp [results, Tryd.results26, go_sem, y0, y1, y2]) rfl ⟨rfl, ((B3.setCell (by simp) _).setCell (by simp) _).setCell (by simp) _⟩
      · have eM : mostM m = m := by unfold mostM; omega
        have wm : IntKind.u64.wrap m = m := by rw [IntKind.wrap_u64]; omega
        rw [eM] at N0
        clear eM hm
        go_enter Tryd.func26, Tryd.ntmps26
        go_wp2_with fail
        refine N0.out.mono ?_
        rintro e w1 ⟨rfl, b1⟩
        obtain ⟨BW, hs, ⟨r0, r1, r2, rf⟩, z0, z1, z2, zf⟩ := boxes w w1 A n c (at_ : Int) 0 b1
        clear N0 b1
        have hs0 : w.heap.size < w1.heap.size := by omega
        have hs1 : w.heap.size + 1 < w1.heap.size := by omega
        have Z : Bx w1 (w.heap.size + 1) (.slice none 0 0) (.int .i64 0) (.int .i64 0) := ⟨hs1, z0, z1, z2, zf⟩
        have R : Bx w1 w.heap.size (.slice A n c) (.int .i64 (at_ : Int)) (.int .i64 0) := ⟨hs0, r0, r1, r2, rf⟩
        have HZ := Lib.hid Z
        have HR := Lib.hid R
        clear Z R
        go_wp2_with fail
        have BA1 : Below w.heap.size w (w1.alloc (.cells #[.slice A n c, .int .i64 ((at_ : Int) + (k : Int)), .int .i64 0] 39)) := BW.alloc (by omega) _
        refine (TS.out _).mono ?_
        rintro e w2 ⟨rfl, b2⟩
        have Z2 := (HZ.out.alloc (.cells #[.slice A n c, .int .i64 ((at_ : Int) + (k : Int)), .int .i64 0] 39)).below b2
        have R2 := (HR.out.alloc (.cells #[.slice A n c, .int .i64 ((at_ : Int) + (k : Int)), .int .i64 0] 39)).below b2
        have B2 := BA1.trans (b2.mono BA1.size)
        have HZ2 := Lib.hid Z2
        have q0 := R2.c0
        have q1 := R2.c1
        have q2 := R2.c2
        have hs2 : w.heap.size < w2.heap.size := R2.lt
        clear r0 r1 r2 rf z0 z1 z2 zf Z2 R2 HZ HR b2 BA1 BW TS
        go_wp2_with fail
        have BA2 : Below w.heap.size w (w2.alloc (.cells #[.slice A n c, .int .i64 ((at_ : Int) + (k : Int)), .int .i64 4] 39)) := B2.alloc (by omega) _
        refine (rfail_any A n c _ _ 4 _).mono ?_
        rintro e w3 ⟨rfl, b3⟩
        have B3 := BA2.trans (b3.mono BA2.size)
        have Z3 := (HZ2.out.alloc (.cells #[.slice A n c, .int .i64 ((at_ : Int) + (k : Int)), .int .i64 4] 39)).below b3
        have y0 := Z3.c0
        have y1 := Z3.c1
        have y2 := Z3.c2
        have yf := Z3.fz
        clear Z3 HZ2 q0 q1 q2 b3
        go_wp2_with fail
        exact bodyPost_ret (v := .tuple #[.agg #[.slice A n c, .int .i64 (at_ : Int), .int .i64 4], .string ⟨#[]⟩]) (by simp [results, Tryd.results26, go_sem, y0, y1, y2]) rfl ⟨rfl, ((B3.setCell (by simp) _).setCell (by simp) _).setCell (by simp) _⟩
    · rw [if_neg hsh] at TR
      subst TR
      rw [if_pos rfl, List.drop_drop] at TV
      rw [if_pos rfl] at TK
      have HTV := Lib.hid TV
      have HTK := Lib.hid TK
      have TG := Lib.hid fun (W : World) (hb : Below w.heap.size w W) => rtake_good A n c (at_ + k) v l W ((h.below hb).more hb.size) hl hn hc (by omega)
      simp only [Int.natCast_add] at TG
      have HLT : Hid (((l.drop (at_ + k)).take v).length = v) := by unfold Hid; rw [List.length_take, List.length_drop, hl]; omega
      clear hz TK TV NUM BA h hl hy hn hv hk hr htr htk htv hbm hkl hv0 hM hLD hvM
      rcases Int.lt_or_le m 0 with hm0 | hm0
      · have eM : mostM m = 0 := by unfold mostM; omega
        rw [eM] at N0
        clear eM
        go_enter Tryd.func26, Tryd.ntmps26
        go_wp2_with fail
        refine N0.out.mono ?_
        rintro e w1 ⟨rfl, b1⟩
        obtain ⟨BW, hs, ⟨r0, r1, r2, rf⟩, z0, z1, z2, zf⟩ := boxes w w1 A n c (at_ : Int) 0 b1
        clear N0 b1
        have hs0 : w.heap.size < w1.heap.size := by omega
        have hs1 : w.heap.size + 1 < w1.heap.size := by omega
        have Z : Bx w1 (w.heap.size + 1) (.slice none 0 0) (.int .i64 0) (.int .i64 0) := ⟨hs1, z0, z1, z2, zf⟩
        have R : Bx w1 w.heap.size (.slice A n c) (.int .i64 (at_ : Int)) (.int .i64 0) := ⟨hs0, r0, r1, r2, rf⟩
        have HZ := Lib.hid Z
        have HR := Lib.hid R
        clear Z R
        go_wp2_with fail
        have BA1 : Below w.heap.size w (w1.alloc (.cells #[.slice A n c, .int .i64 ((at_ : Int) + (k : Int)), .int .i64 0] 39)) := BW.alloc (by omega) _
        refine (TG.out _ BA1).mono ?_
        rintro e w2 ⟨A2, c2, rfl, ho, b2⟩
        have Z2 := (HZ.out.alloc (.cells #[.slice A n c, .int .i64 ((at_ : Int) + (k : Int)), .int .i64 0] 39)).below b2
        have B2 := BA1.trans (b2.mono BA1.size)
        have CVW := Lib.hid fun (W : World) (hb : Past (w.heap.size + 1) w2 W) => run_str A2 v c2 ((l.drop (at_ + k)).take v) W _ (reads_past ho hb (by simp; omega)) HLT.out
        obtain ⟨S, hS⟩ : ∃ S, strOfNums ((l.drop (at_ + k)).take v) = S := ⟨_, rfl⟩
        rw [hS] at CVW HTV
        have Z3 := Z2.alloc (.cells #[.slice A n c, .int .i64 ((at_ : Int) + (k : Int) + (v : Int)), .int .i64 0] 39)
        have y0 := Z2.c0
        have y1 := Z2.c1
        have y2 := Z2.c2
        have yf := Z2.fz
        have hs3 : w.heap.size + 1 < w2.heap.size := Z2.lt
        clear r0 r1 r2 rf z0 z1 z2 zf Z2 Z3 HZ HR b2 BA1 BW TG hS ho
        go_wp2_with fail
        have Y := Bx.new w2 (.slice A n c) (.int .i64 ((at_ : Int) + (k : Int) + (v : Int))) (.int .i64 0) 39
        refine wp_region_held_drew (S := (fun w' => Past (w.heap.size + 1) w2 w' ∧ w'.cell? ⟨w2.heap.size, 0, none⟩ = some (.slice A n c) ∧ w'.cell? ⟨w2.heap.size, 1, none⟩ = some (.int .i64 ((at_ : Int) + (k : Int) + (v : Int))) ∧ w'.cell? ⟨w2.heap.size, 2, none⟩ = some (.int .i64 0))) (by kernel_rfl) ?_ (fun hHeld => ?_)
        · exact ⟨Past.of_below ((Below.refl w2.heap.size w2).alloc (Nat.le_refl _) _).drew, Y.c0, Y.c1, Y.c2⟩
        refine takeD (i := 0) (d := some 40) (v := ?_) _ rfl rfl (by kernel_rfl) (by kernel_rfl) (by kernel_rfl) (fun _ _ _ h => h) (by rfl) ?_ (by assumption) ?_
        rotate_left
        · (intro w hSw; (try dsimp only at hSw); go_simp) <;> with_reducible rfl
        try simp only [Act.put, List.setIfInBounds_toArray, List.set_cons_zero, List.set_cons_succ]
        refine takeD (i := 1) (d := some 41) (v := ?_) _ rfl rfl (by kernel_rfl) (by kernel_rfl) (by kernel_rfl) (fun _ _ _ h => h) (by rfl) ?_ (by assumption) ?_
        rotate_left
        · (intro w hSw; (try dsimp only at hSw); go_simp) <;> with_reducible rfl
        try simp only [Act.put, List.setIfInBounds_toArray, List.set_cons_zero, List.set_cons_succ]
        refine takeD (i := 2) (d := some 42) (v := ?_) _ rfl rfl (by kernel_rfl) (by kernel_rfl) (by kernel_rfl) (fun _ _ _ h => h) (by rfl) ?_ (by assumption) ?_
        rotate_left
        · (intro w hSw; (try dsimp only at hSw); have cv := CVW.out w hSw.1; go_simp) <;> with_reducible rfl
        try simp only [Act.put, List.setIfInBounds_toArray, List.set_cons_zero, List.set_cons_succ]
        refine wpAnyH_ready (rs := [3]) (by kernel_rfl) (by simp) ?_
        refine AllReadyH.cons rfl (fun K hK => ?_) AllReadyH.nil
        go_simp
        refine hK.out _ _ ?_ (fun hHeld => ?_)
        · have Y3 := Bx.new (((w2.setCell ⟨w.heap.size + 1, 0, none⟩ (.slice A n c)).setCell ⟨w.heap.size + 1, 1, none⟩ (.int .i64 ((at_ : Int) + (k : Int) + (v : Int)))).setCell ⟨w.heap.size + 1, 2, none⟩ (.int .i64 0)) (.slice A n c) (.int .i64 ((at_ : Int) + (k : Int) + (v : Int))) (.int .i64 0) 39
          have P3 := (((Past.of_below (x := w.heap.size + 1) (Below.refl w2.heap.size w2)).set 0 (.slice A n c)).set 1 (.int .i64 ((at_ : Int) + (k : Int) + (v : Int)))).set 2 (.int .i64 0)
          exact ⟨(P3.alloc _).drew, by simpa [World.setCell] using Y3.c0, by simpa [World.setCell] using Y3.c1, by simpa [World.setCell] using Y3.c2⟩
        clear hK K
        try simp only [Act.put, List.setIfInBounds_toArray, List.set_cons_zero, List.set_cons_succ]
        refine takeD (i := 4) (d := some 5) (v := ?_) _ rfl rfl (by kernel_rfl) (by kernel_rfl) (by kernel_rfl) (fun _ _ _ h => h) (by rfl) ?_ (by assumption) ?_
        rotate_left
        · (intro w hSw; (try dsimp only at hSw); go_simp) <;> with_reducible rfl
        try simp only [Act.put, List.setIfInBounds_toArray, List.set_cons_zero, List.set_cons_succ]
        refine wpAnyH_done (by kernel_rfl) ?_ _
        clear hHeld
        go_wp2_with fail
        have e1 : tv = S := HTV.out
        have e2 : tk = k + v := HTK.out
        exact bodyPost_ret (v := .tuple #[.agg #[.slice A n c, .int .i64 ((at_ : Int) + (k : Int) + (v : Int)), .int .i64 0], .string S]) (by simp [results, Tryd.results26, go_sem, y0, y1, y2, hs3]) rfl ⟨by rw [e1, e2, Int.natCast_add, Int.natCast_add, Int.add_assoc], ((((B2.setCell (by simp) _).setCell (by simp) _).setCell (by simp) _).alloc (by simp [World.setCell]; omega) _).drew⟩
      · have eM : mostM m = m := by unfold mostM; omega
        have wm : IntKind.u64.wrap m = m := by rw [IntKind.wrap_u64]; omega
        rw [eM] at N0
        clear eM hm
        go_enter Tryd.func26, Tryd.ntmps26
        go_wp2_with fail
        refine N0.out.mono ?_
        rintro e w1 ⟨rfl, b1⟩
        obtain ⟨BW, hs, ⟨r0, r1, r2, rf⟩, z0, z1, z2, zf⟩ := boxes w w1 A n c (at_ : Int) 0 b1
        clear N0 b1
        have hs0 : w.heap.size < w1.heap.size := by omega
        have hs1 : w.heap.size + 1 < w1.heap.size := by omega
        have Z : Bx w1 (w.heap.size + 1) (.slice none 0 0) (.int .i64 0) (.int .i64 0) := ⟨hs1, z0, z1, z2, zf⟩
        have R : Bx w1 w.heap.size (.slice A n c) (.int .i64 (at_ : Int)) (.int .i64 0) := ⟨hs0, r0, r1, r2, rf⟩
        have HZ := Lib.hid Z
        have HR := Lib.hid R
        clear Z R
        go_wp2_with fail
        have BA1 : Below w.heap.size w (w1.alloc (.cells #[.slice A n c, .int .i64 ((at_ : Int) + (k : Int)), .int .i64 0] 39)) := BW.alloc (by omega) _
        refine (TG.out _ BA1).mono ?_
        rintro e w2 ⟨A2, c2, rfl, ho, b2⟩
        have Z2 := (HZ.out.alloc (.cells #[.slice A n c, .int .i64 ((at_ : Int) + (k : Int)), .int .i64 0] 39)).below b2
        have B2 := BA1.trans (b2.mono BA1.size)
        have CVW := Lib.hid fun (W : World) (hb : Past (w.heap.size + 1) w2 W) => run_str A2 v c2 ((l.drop (at_ + k)).take v) W _ (reads_past ho hb (by simp; omega)) HLT.out
        obtain ⟨S, hS⟩ : ∃ S, strOfNums ((l.drop (at_ + k)).take v) = S := ⟨_, rfl⟩
        rw [hS] at CVW HTV
        have Z3 := Z2.alloc (.cells #[.slice A n c, .int .i64 ((at_ : Int) + (k : Int) + (v : Int)), .int .i64 0] 39)
        have y0 := Z2.c0
        have y1 := Z2.c1
        have y2 := Z2.c2
        have yf := Z2.fz
        have hs3 : w.heap.size + 1 < w2.heap.size := Z2.lt
        clear r0 r1 r2 rf z0 z1 z2 zf Z2 Z3 HZ HR b2 BA1 BW TG hS ho
        go_wp2_with fail
        have Y := Bx.new w2 (.slice A n c) (.int .i64 ((at_ : Int) + (k : Int) + (v : Int))) (.int .i64 0) 39
        refine wp_region_held_drew (S := (fun w' => Past (w.heap.size + 1) w2 w' ∧ w'.cell? ⟨w2.heap.size, 0, none⟩ = some (.slice A n c) ∧ w'.cell? ⟨w2.heap.size, 1, none⟩ = some (.int .i64 ((at_ : Int) + (k : Int) + (v : Int))) ∧ w'.cell? ⟨w2.heap.size, 2, none⟩ = some (.int .i64 0))) (by kernel_rfl) ?_ (fun hHeld => ?_)
        · exact ⟨Past.of_below ((Below.refl w2.heap.size w2).alloc (Nat.le_refl _) _).drew, Y.c0, Y.c1, Y.c2⟩
        refine takeD (i := 0) (d := some 40) (v := ?_) _ rfl rfl (by kernel_rfl) (by kernel_rfl) (by kernel_rfl) (fun _ _ _ h => h) (by rfl) ?_ (by assumption) ?_
        rotate_left
        · (intro w hSw; (try dsimp only at hSw); go_simp) <;> with_reducible rfl
        try simp only [Act.put, List.setIfInBounds_toArray, List.set_cons_zero, List.set_cons_succ]
        refine takeD (i := 1) (d := some 41) (v := ?_) _ rfl rfl (by kernel_rfl) (by kernel_rfl) (by kernel_rfl) (fun _ _ _ h => h) (by rfl) ?_ (by assumption) ?_
        rotate_left
        · (intro w hSw; (try dsimp only at hSw); go_simp) <;> with_reducible rfl
        try simp only [Act.put, List.setIfInBounds_toArray, List.set_cons_zero, List.set_cons_succ]
        refine takeD (i := 2) (d := some 42) (v := ?_) _ rfl rfl (by kernel_rfl) (by kernel_rfl) (by kernel_rfl) (fun _ _ _ h => h) (by rfl) ?_ (by assumption) ?_
        rotate_left
        · (intro w hSw; (try dsimp only at hSw); have cv := CVW.out w hSw.1; go_simp) <;> with_reducible rfl
        try simp only [Act.put, List.setIfInBounds_toArray, List.set_cons_zero, List.set_cons_succ]
        refine wpAnyH_ready (rs := [3]) (by kernel_rfl) (by simp) ?_
        refine AllReadyH.cons rfl (fun K hK => ?_) AllReadyH.nil
        go_simp
        refine hK.out _ _ ?_ (fun hHeld => ?_)
        · have Y3 := Bx.new (((w2.setCell ⟨w.heap.size + 1, 0, none⟩ (.slice A n c)).setCell ⟨w.heap.size + 1, 1, none⟩ (.int .i64 ((at_ : Int) + (k : Int) + (v : Int)))).setCell ⟨w.heap.size + 1, 2, none⟩ (.int .i64 0)) (.slice A n c) (.int .i64 ((at_ : Int) + (k : Int) + (v : Int))) (.int .i64 0) 39
          have P3 := (((Past.of_below (x := w.heap.size + 1) (Below.refl w2.heap.size w2)).set 0 (.slice A n c)).set 1 (.int .i64 ((at_ : Int) + (k : Int) + (v : Int)))).set 2 (.int .i64 0)
          exact ⟨(P3.alloc _).drew, by simpa [World.setCell] using Y3.c0, by simpa [World.setCell] using Y3.c1, by simpa [World.setCell] using Y3.c2⟩
        clear hK K
        try simp only [Act.put, List.setIfInBounds_toArray, List.set_cons_zero, List.set_cons_succ]
        refine takeD (i := 4) (d := some 5) (v := ?_) _ rfl rfl (by kernel_rfl) (by kernel_rfl) (by kernel_rfl) (fun _ _ _ h => h) (by rfl) ?_ (by assumption) ?_
        rotate_left
        · (intro w hSw; (try dsimp only at hSw); go_simp) <;> with_reducible rfl
        try simp only [Act.put, List.setIfInBounds_toArray, List.set_cons_zero, List.set_cons_succ]
        refine wpAnyH_done (by kernel_rfl) ?_ _
        clear hHeld
        go_wp2_with fail
        have e1 : tv = S := HTV.out
        have e2 : tk = k + v := HTK.out
        exact bodyPost_ret (v := .tuple #[.agg #[.slice A n c, .int .i64 ((at_ : Int) + (k : Int) + (v : Int)), .int .i64 0], .string S]) (by simp [results, Tryd.results26, go_sem, y0, y1, y2, hs3]) rfl ⟨by rw [e1, e2, Int.natCast_add, Int.natCast_add, Int.add_assoc], ((((B2.setCell (by simp) _).setCell (by simp) _).setCell (by simp) _).alloc (by simp [World.setCell]; omega) _).drew⟩
  · rw [if_pos hr0] at TR
    subst TR
    obtain ⟨rfl, rfl⟩ := hz hr0
    simp only [Nat.add_zero]
    clear hz TK TV NUM BA h hl hy hn hv hk hr htr htk htv hbm hkl hv0 hM hLD
    rcases Int.lt_or_le m 0 with hm0 | hm0
    · have eM : mostM m = 0 := by unfold mostM; omega
      rw [eM] at N0
      clear eM
      go_enter Tryd.func26, Tryd.ntmps26
      go_wp2_with fail
      refine N0.out.mono ?_
      rintro e w1 ⟨rfl, b1⟩
      obtain ⟨BW, hs, ⟨r0, r1, r2, rf⟩, z0, z1, z2, zf⟩ := boxes w w1 A n c (at_ : Int) 0 b1
      clear N0 b1
      have hs0 : w.heap.size < w1.heap.size := by omega
      have hs1 : w.heap.size + 1 < w1.heap.size := by omega
      have Z : Bx w1 (w.heap.size + 1) (.slice none 0 0) (.int .i64 0) (.int .i64 0) := ⟨hs1, z0, z1, z2, zf⟩
      have R : Bx w1 w.heap.size (.slice A n c) (.int .i64 (at_ : Int)) (.int .i64 0) := ⟨hs0, r0, r1, r2, rf⟩
      have HZ := Lib.hid Z
      have HR := Lib.hid R
      clear Z R
      go_wp2_with fail
      have BA1 : Below w.heap.size w (w1.alloc (.cells #[.slice A n c, .int .i64 ((at_ : Int) + (k : Int)), .int .i64 tr] 39)) := BW.alloc (by omega) _
      refine (rfail_any A n c _ _ tr _).mono ?_
      rintro e w3 ⟨rfl, b3⟩
      have B3 := BA1.trans (b3.mono BA1.size)
      have Z3 := (HZ.out.alloc (.cells #[.slice A n c, .int .i64 ((at_ : Int) + (k : Int)), .int .i64 tr] 39)).below b3
      have y0 := Z3.c0
      have y1 := Z3.c1
      have y2 := Z3.c2
      have yf := Z3.fz
      clear Z3 HZ HR r0 r1 r2 rf z0 z1 z2 zf b3
      go_wp2_with fail
      exact bodyPost_ret (v := .tuple #[.agg #[.slice A n c, .int .i64 (at_ : Int), .int .i64 tr], .string ⟨#[]⟩]) (by simp [results, Tryd.results26, go_sem, y0, y1, y2]) rfl ⟨rfl, ((B3.setCell (by simp) _).setCell (by simp) _).setCell (by simp) _⟩
    · have eM : mostM m = m := by unfold mostM; omega
      have wm : IntKind.u64.wrap m = m := by rw [IntKind.wrap_u64]; omega
      rw [eM] at N0
      clear eM hm
      go_enter Tryd.func26, Tryd.ntmps26
      go_wp2_with fail
      refine N0.out.mono ?_
      rintro e w1 ⟨rfl, b1⟩
      obtain ⟨BW, hs, ⟨r0, r1, r2, rf⟩, z0, z1, z2, zf⟩ := boxes w w1 A n c (at_ : Int) 0 b1
      clear N0 b1
      have hs0 : w.heap.size < w1.heap.size := by omega
      have hs1 : w.heap.size + 1 < w1.heap.size := by omega
      have Z : Bx w1 (w.heap.size + 1) (.slice none 0 0) (.int .i64 0) (.int .i64 0) := ⟨hs1, z0, z1, z2, zf⟩
      have R : Bx w1 w.heap.size (.slice A n c) (.int .i64 (at_ : Int)) (.int .i64 0) := ⟨hs0, r0, r1, r2, rf⟩
      have HZ := Lib.hid Z
      have HR := Lib.hid R
      clear Z R
      go_wp2_with fail
      have BA1 : Below w.heap.size w (w1.alloc (.cells #[.slice A n c, .int .i64 ((at_ : Int) + (k : Int)), .int .i64 tr] 39)) := BW.alloc (by omega) _
      refine (rfail_any A n c _ _ tr _).mono ?_
      rintro e w3 ⟨rfl, b3⟩
      have B3 := BA1.trans (b3.mono BA1.size)
      have Z3 := (HZ.out.alloc (.cells #[.slice A n c, .int .i64 ((at_ : Int) + (k : Int)), .int .i64 tr] 39)).below b3
      have y0 := Z3.c0
      have y1 := Z3.c1
      have y2 := Z3.c2
      have yf := Z3.fz
      clear Z3 HZ HR r0 r1 r2 rf z0 z1 z2 zf b3
      go_wp2_with fail
      exact bodyPost_ret (v := .tuple #[.agg #[.slice A n c, .int .i64 (at_ : Int), .int .i64 tr], .string ⟨#[]⟩]) (by simp [results, Tryd.results26, go_sem, y0, y1, y2]) rfl ⟨rfl, ((B3.setCell (by simp) _).setCell (by simp) _).setCell (by simp) _⟩
theorem rstr_err (A : Option Addr) (n c : Nat) (at_ er m : Int) (w : World) (hm : m < 18446744073709551616) (he : er ≠ 0) :
    Calls Tryd.prog 26 #[.agg #[.slice A n c, .int .i64 at_, .int .i64 er], .int .i64 m] w fun e w' => e = .returned (.tuple #[.agg #[.slice A n c, .int .i64 at_, .int .i64 er], .string ⟨#[]⟩]) ∧ Below w.heap.size w w' := by
  rcases Int.lt_or_le m 0 with hm0 | hm0
  · go_enter Tryd.func26, Tryd.ntmps26
    go_wp2_with fail
    refine (rnum_err A n c at_ er _ _ he).mono ?_
    rintro e w1 ⟨rfl, b1⟩
    obtain ⟨BW, hs, ⟨r0, r1, r2, rf⟩, z0, z1, z2, zf⟩ := boxes w w1 A n c at_ er b1
    have hs0 : w.heap.size < w1.heap.size := by omega
    have hs1 : w.heap.size + 1 < w1.heap.size := by omega
    have Z : Bx w1 (w.heap.size + 1) (.slice none 0 0) (.int .i64 0) (.int .i64 0) := ⟨hs1, z0, z1, z2, zf⟩
    have HZ := Lib.hid Z
    clear Z b1
    go_wp2_with fail
    have BA1 : Below w.heap.size w (w1.alloc (.cells #[.slice A n c, .int .i64 at_, .int .i64 er] 39)) := BW.alloc (by omega) _
    refine (rfail_any A n c _ _ er _).mono ?_
    rintro e w3 ⟨rfl, b3⟩
    have B3 := BA1.trans (b3.mono BA1.size)
    have Z3 := (HZ.out.alloc (.cells #[.slice A n c, .int .i64 at_, .int .i64 er] 39)).below b3
    have y0 := Z3.c0
    have y1 := Z3.c1
    have y2 := Z3.c2
    have yf := Z3.fz
    clear Z3 HZ r0 r1 r2 rf z0 z1 z2 zf b3
    go_wp2_with fail
    exact bodyPost_ret (v := .tuple #[.agg #[.slice A n c, .int .i64 at_, .int .i64 er], .string ⟨#[]⟩]) (by simp [results, Tryd.results26, go_sem, y0, y1, y2]) rfl ⟨rfl, ((B3.setCell (by simp) _).setCell (by simp) _).setCell (by simp) _⟩
  · have wm : IntKind.u64.wrap m = m := by rw [IntKind.wrap_u64]; omega
    clear hm
    go_enter Tryd.func26, Tryd.ntmps26
    go_wp2_with fail
    refine (rnum_err A n c at_ er _ _ he).mono ?_
    rintro e w1 ⟨rfl, b1⟩
    obtain ⟨BW, hs, ⟨r0, r1, r2, rf⟩, z0, z1, z2, zf⟩ := boxes w w1 A n c at_ er b1
    have hs0 : w.heap.size < w1.heap.size := by omega
    have hs1 : w.heap.size + 1 < w1.heap.size := by omega
    have Z : Bx w1 (w.heap.size + 1) (.slice none 0 0) (.int .i64 0) (.int .i64 0) := ⟨hs1, z0, z1, z2, zf⟩
    have HZ := Lib.hid Z
    clear Z b1
    go_wp2_with fail
    have BA1 : Below w.heap.size w (w1.alloc (.cells #[.slice A n c, .int .i64 at_, .int .i64 er] 39)) := BW.alloc (by omega) _
    refine (rfail_any A n c _ _ er _).mono ?_
    rintro e w3 ⟨rfl, b3⟩
    have B3 := BA1.trans (b3.mono BA1.size)
    have Z3 := (HZ.out.alloc (.cells #[.slice A n c, .int .i64 at_, .int .i64 er] 39)).below b3
    have y0 := Z3.c0
    have y1 := Z3.c1
    have y2 := Z3.c2
    have yf := Z3.fz
    clear Z3 HZ r0 r1 r2 rf z0 z1 z2 zf b3
    go_wp2_with fail
    exact bodyPost_ret (v := .tuple #[.agg #[.slice A n c, .int .i64 at_, .int .i64 er], .string ⟨#[]⟩]) (by simp [results, Tryd.results26, go_sem, y0, y1, y2]) rfl ⟨rfl, ((B3.setCell (by simp) _).setCell (by simp) _).setCell (by simp) _⟩
end Go.Proofs.YthcegmijphbhgaaDoor
