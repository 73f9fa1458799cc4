/-
  WireThere's walk: numbers, texts and words that are put are read as they were, one behind the other.
-/
import Derived.Test.YthcegmijphbhgaaDoorBack
import Derived.Test.YthcegmijphbhgaaDoorReads
namespace Go.Proofs.YthcegmijphbhgaaDoor
open Go.RowKit
set_option linter.unusedSimpArgs false
set_option linter.unusedVariables false
/-- A slice of numbers as the walk reads it. -/
def NumRow (W : World) (k : IntKind) (B : Nat) (a : Option Addr) (len : Nat) (F : Nat → Nat) : Prop := (∀ i, F i < B) ∧ (0 < len → ∃ (b off : Nat), a = some ⟨b, off, none⟩ ∧ ∀ i, i < len → W.cell? ⟨b, off + i, none⟩ = some (.int k (F i : Int)))
/-- A slice of texts as the walk reads it. -/
def StrRow (W : World) (a : Option Addr) (len : Nat) : Prop := ∃ S : Nat → ByteArray, 0 < len → ∃ (b off : Nat), a = some ⟨b, off, none⟩ ∧ ∀ i, i < len → W.cell? ⟨b, off + i, none⟩ = some (.string (S i)) ∧ (S i).size ≤ maxLen
theorem numRow_of {W : World} {k : IntKind} {a : Option Addr} {len cap : Nat} {zs : List Int} (B : Nat) (hB : 0 < B) (hk : ∀ n, (Lit.int k n).wf = true → 0 ≤ n ∧ n < (B : Int)) (h : IsRow k W a len cap zs) : (∃ F, NumRow W k B a len F) ∧ len ≤ cap ∧ cap ≤ maxLen := by
  rcases h with ⟨rfl, rfl, rfl, rfl⟩ | ⟨x, rfl, h1, h2, h3, h4, h5⟩
  · exact ⟨⟨fun _ => 0, fun _ => hB, fun h => absurd h (by omega)⟩, Nat.le_refl _, by unfold maxLen; omega⟩
  · refine ⟨⟨fun i => (zs.getD i 0).toNat, fun i => ?_, fun hp => ?_⟩, h1, h2⟩
    · show (zs.getD i 0).toNat < B
      rw [List.getD_eq_getElem?_getD]
      rcases Nat.lt_or_ge i zs.length with hi | hi
      · rw [List.getElem?_eq_getElem hi]
        have := hk _ (h5 _ (List.getElem_mem hi))
        simp; omega
      · rw [List.getElem?_eq_none hi]; simpa using hB
    · obtain ⟨b, off, spot⟩ := x
      have e0 := h4 0 (by omega)
      have hs : spot = none := by simpa [Addr.add] using World.cell?_spot e0
      subst hs
      refine ⟨b, off, rfl, fun i hi => ?_⟩
      have hc := h4 i (by omega)
      rw [Addr.add_lit] at hc
      have hw := hk (zs.getD i 0) (h5 _ (by rw [List.getD_eq_getElem?_getD, List.getElem?_eq_getElem (by omega)]; exact List.getElem_mem _))
      rw [hc, Int.toNat_of_nonneg hw.1]
def BV (w0 : World) (l : List Int) (v : Value) (w : World) : Prop := ∃ A c n, v = .slice A n c ∧ Hid (n = l.length) ∧ Reads w w.heap.size 1 A n (U l) ∧ Below w0.heap.size w0 w
theorem BV.of_own {w0 w1 w' : World} {n : Nat} {l : List Int} {e : Ending} (h : Own w1.heap.size w1 n l e w') (hb : Below w0.heap.size w0 w1) : ∃ v, e = .returned v ∧ BV w0 l v w' := by
  obtain ⟨A, c, he, ho, hb'⟩ := h
  exact ⟨_, he, A, c, n, rfl, by have := ho.1; unfold Hid; simpa using this.symm, Reads.of_own ho, hb.trans (hb'.mono hb.size)⟩
/-- The readers of what was put. -/
structure RdRel (w : World) (r k : Nat) (full : List Int) (pre : List Int) (f : Nat → List Int) (iv : Value) (wr : World) : Prop where
  ex : ∃ (i : Nat), i ≤ k ∧ iv = .int .i64 (i : Int) ∧ RdF wr r (pre ++ catF f i).length 0 full ∧ Below w.heap.size w wr
structure PutRel (w : World) (k : Nat) (pre : List Int) (f : Nat → List Int) (bv iv : Value) (wr : World) : Prop where
  ex : ∃ (i : Nat), i ≤ k ∧ iv = .int .i64 (i : Int) ∧ BV w (pre ++ catF f i) bv wr
theorem cellPast {r b o : Nat} {W W' : World} {v : Value} (P : Past r W W') (h : W.cell? ⟨b, o, none⟩ = some v) (hb : b ≠ r) : W'.cell? ⟨b, o, none⟩ = some v :=
  (World.cell?_of_block (a := ⟨b, o, none⟩) (P.block b (World.block_lt_of_cell? _ _ h) hb)).trans h
/-- What stands behind the reader's place. -/
theorem drop_at {full pre post : List Int} {f : Nat → List Int} {k i : Nat} (h : full = pre ++ catF f k ++ post) (hi : i < k) : ∃ R, full.drop (pre ++ catF f i).length = f i ++ R ∧ (pre ++ catF f (i + 1)).length = (pre ++ catF f i).length + (f i).length ∧ (pre ++ catF f i).length + (f i).length ≤ full.length := by
  obtain ⟨R, hR⟩ := catF_split f i k hi
  refine ⟨R ++ post, ?_, by simp [catF]; omega, ?_⟩
  · rw [h, hR, show pre ++ (catF f i ++ (f i ++ R)) ++ post = (pre ++ catF f i) ++ (f i ++ (R ++ post)) by simp, List.drop_left]
  · rw [h, hR]; simp; omega
set_option maxRecDepth 100000 in
set_option maxHeartbeats 4000000 in
theorem there_walk (a0 : Option Addr) (len0 cap0 : Nat) (a1 : Option Addr) (len1 cap1 : Nat) (a2 : Option Addr) (len2 cap2 : Nat) (w : World) (h0 : (∃ F, NumRow w .u64 18446744073709551616 a0 len0 F) ∧ len0 ≤ cap0 ∧ cap0 ≤ maxLen) (h1 : StrRow w a1 len1 ∧ len1 ≤ cap1 ∧ cap1 ≤ maxLen) (h2 : (∃ F, NumRow w .u32 4294967296 a2 len2 F) ∧ len2 ≤ cap2 ∧ cap2 ≤ maxLen) (hl : Laid w) :
    Calls Tryd.prog 6 #[.slice a0 len0 cap0, .slice a1 len1 cap1, .slice a2 len2 cap2] w fun e w' => e = .returned (.bool true) ∧ Below w.heap.size w w' := by
  obtain ⟨⟨F, hF⟩, lc0, cm0⟩ := h0
  obtain ⟨⟨S, hS⟩, lc1, cm1⟩ := h1
  obtain ⟨⟨G, hG⟩, lc2, cm2⟩ := h2
  obtain ⟨k0, mk0, kl0, kt0⟩ : ∃ k : Nat, min (len0 : Int) 20 = (k : Int) ∧ k ≤ len0 ∧ k ≤ 20 := ⟨min len0 20, by omega, by omega, by omega⟩
  have kc0 : (k0 : Int) ≤ (cap0 : Int) := by omega
  have kz0 : (0 : Int) ≤ (k0 : Int) := by omega
  have HT0 : Hid (k0 ≤ 20) := kt0
  obtain ⟨k1, mk1, kl1, kt1⟩ : ∃ k : Nat, min (len1 : Int) 20 = (k : Int) ∧ k ≤ len1 ∧ k ≤ 20 := ⟨min len1 20, by omega, by omega, by omega⟩
  have kc1 : (k1 : Int) ≤ (cap1 : Int) := by omega
  have kz1 : (0 : Int) ≤ (k1 : Int) := by omega
  have HT1 : Hid (k1 ≤ 20) := kt1
  obtain ⟨k2, mk2, kl2, kt2⟩ : ∃ k : Nat, min (len2 : Int) 20 = (k : Int) ∧ k ≤ len2 ∧ k ≤ 20 := ⟨min len2 20, by omega, by omega, by omega⟩
  have kc2 : (k2 : Int) ≤ (cap2 : Int) := by omega
  have kz2 : (0 : Int) ≤ (k2 : Int) := by omega
  have HT2 : Hid (k2 ≤ 20) := kt2
  have HF : Hid (∀ i, F i < 18446744073709551616) := hF.1
  have HG : Hid (∀ i, G i < 4294967296) := hG.1
  have PF : Hid (∀ i, i < k0 → ∃ (b off : Nat), a0 = some ⟨b, off, none⟩ ∧ w.cell? ⟨b, off + i, none⟩ = some (.int .u64 (F i : Int))) := fun i hi => by
    obtain ⟨b, off, e, hc⟩ := hF.2 (by omega)
    exact ⟨b, off, e, hc i (by omega)⟩
  have PG : Hid (∀ i, i < k2 → ∃ (b off : Nat), a2 = some ⟨b, off, none⟩ ∧ w.cell? ⟨b, off + i, none⟩ = some (.int .u32 (G i : Int))) := fun i hi => by
    obtain ⟨b, off, e, hc⟩ := hG.2 (by omega)
    exact ⟨b, off, e, hc i (by omega)⟩
  have PS : Hid (∀ i, i < k1 → ∃ (b off : Nat), a1 = some ⟨b, off, none⟩ ∧ w.cell? ⟨b, off + i, none⟩ = some (.string (S i)) ∧ (S i).size ≤ maxLen) := fun i hi => by
    obtain ⟨b, off, e, hc⟩ := hS (by omega)
    exact ⟨b, off, e, hc i (by omega)⟩
  obtain ⟨Tx, hTx⟩ : ∃ Tx : Nat → ByteArray, Hid (∀ i, Tx i = (S i).extract 0 (min (S i).size 50)) := ⟨_, fun i => rfl⟩
  have TS : Hid (∀ i, (Tx i).size ≤ 50) := fun i => by rw [hTx.out]; simp; omega
  obtain ⟨f1, hf1⟩ : ∃ f : Nat → List Int, Hid (∀ i, f i = varB (F i)) := ⟨_, fun i => rfl⟩
  obtain ⟨f2, hf2⟩ : ∃ f : Nat → List Int, Hid (∀ i, f i = varB (Tx i).size ++ sB (Tx i)) := ⟨_, fun i => rfl⟩
  obtain ⟨f3, hf3⟩ : ∃ f : Nat → List Int, Hid (∀ i, f i = wordB (G i : Int)) := ⟨_, fun i => rfl⟩
  have n1 : Hid (∀ i, (catF f1 i).length ≤ 10 * i) := fun i => catF_len f1 10 (fun j => by rw [hf1.out]; exact varB_len _ (HF.out j)) i
  have n2 : Hid (∀ i, (catF f2 i).length ≤ 60 * i) := fun i => catF_len f2 60 (fun j => by rw [hf2.out, List.length_append, sB_len]; have := varB_len (Tx j).size (by have := TS.out j; omega); have := TS.out j; omega) i
  have n3 : Hid (∀ i, (catF f3 i).length ≤ 4 * i) := fun i => catF_len f3 4 (fun j => by rw [hf3.out]; simp [wordB]) i
  have HL := Lib.hid hl
  clear hF hS hG hl lc0 lc1 lc2 cm0 cm1 cm2 kl0 kl1 kl2 kt0 kt1 kt2
  go_enter Tryd.func6, Tryd.ntmps6
  go_wp2_with fail
  refine wp_region_held_drew (S := (fun w' => Below w.heap.size w w')) (by kernel_rfl) ?_ (fun hHeld => ?_)
  · exact (Below.refl _ _).drew
  refine takeD (i := 0) (d := some 15) (v := ?_) _ rfl rfl (by kernel_rfl) (by kernel_rfl) (by kernel_rfl) (fun _ _ _ h => h) (by rfl) ?_ (by assumption) ?_
  rotate_left
  · (intro w hSw; (try dsimp only at hSw); go_simp) <;> with_reducible rfl
  try simp only [Act.put, List.setIfInBounds_toArray, List.set_cons_zero, List.set_cons_succ]
  refine takeD (i := 1) (d := some 16) (v := ?_) _ rfl rfl (by kernel_rfl) (by kernel_rfl) (by kernel_rfl) (fun _ _ _ h => h) (by rfl) ?_ (by assumption) ?_
  rotate_left
  · (intro w hSw; (try dsimp only at hSw); go_simp) <;> with_reducible rfl
  try simp only [Act.put, List.setIfInBounds_toArray, List.set_cons_zero, List.set_cons_succ]
  refine takeD (i := 2) (d := some 17) (v := ?_) _ rfl rfl (by kernel_rfl) (by kernel_rfl) (by kernel_rfl) (fun _ _ _ h => h) (by rfl) ?_ (by assumption) ?_
  rotate_left
  · (intro w hSw; (try dsimp only at hSw); go_simp) <;> with_reducible rfl
  try simp only [Act.put, List.setIfInBounds_toArray, List.set_cons_zero, List.set_cons_succ]
  refine takeD (i := 3) (d := some 18) (v := ?_) _ rfl rfl (by kernel_rfl) (by kernel_rfl) (by kernel_rfl) (fun _ _ _ h => h) (by rfl) ?_ (by assumption) ?_
  rotate_left
  · (intro w hSw; (try dsimp only at hSw); go_simp) <;> with_reducible rfl
  try simp only [Act.put, List.setIfInBounds_toArray, List.set_cons_zero, List.set_cons_succ]
  refine takeD (i := 4) (d := some 19) (v := ?_) _ rfl rfl (by kernel_rfl) (by kernel_rfl) (by kernel_rfl) (fun _ _ _ h => h) (by rfl) ?_ (by assumption) ?_
  rotate_left
  · (intro w hSw; (try dsimp only at hSw); go_simp) <;> with_reducible rfl
  try simp only [Act.put, List.setIfInBounds_toArray, List.set_cons_zero, List.set_cons_succ]
  refine takeD (i := 5) (d := some 20) (v := ?_) _ rfl rfl (by kernel_rfl) (by kernel_rfl) (by kernel_rfl) (fun _ _ _ h => h) (by rfl) ?_ (by assumption) ?_
  rotate_left
  · (intro w hSw; (try dsimp only at hSw); go_simp) <;> with_reducible rfl
  try simp only [Act.put, List.setIfInBounds_toArray, List.set_cons_zero, List.set_cons_succ]
  refine takeD (i := 6) (d := some 21) (v := ?_) _ rfl rfl (by kernel_rfl) (by kernel_rfl) (by kernel_rfl) (fun _ _ _ h => h) (by rfl) ?_ (by assumption) ?_
  rotate_left
  · (intro w hSw; (try dsimp only at hSw); go_simp) <;> with_reducible rfl
  try simp only [Act.put, List.setIfInBounds_toArray, List.set_cons_zero, List.set_cons_succ]
  refine takeD (i := 7) (d := some 22) (v := ?_) _ rfl rfl (by kernel_rfl) (by kernel_rfl) (by kernel_rfl) (fun _ _ _ h => h) (by rfl) ?_ (by assumption) ?_
  rotate_left
  · (intro w hSw; (try dsimp only at hSw); go_simp) <;> with_reducible rfl
  try simp only [Act.put, List.setIfInBounds_toArray, List.set_cons_zero, List.set_cons_succ]
  refine takeD (i := 8) (d := some 23) (v := ?_) _ rfl rfl (by kernel_rfl) (by kernel_rfl) (by kernel_rfl) (fun _ _ _ h => h) (by rfl) ?_ (by assumption) ?_
  rotate_left
  · (intro w hSw; (try dsimp only at hSw); go_simp) <;> with_reducible rfl
  try simp only [Act.put, List.setIfInBounds_toArray, List.set_cons_zero, List.set_cons_succ]
  refine takeD (i := 9) (d := some 24) (v := ?_) _ rfl rfl (by kernel_rfl) (by kernel_rfl) (by kernel_rfl) (fun _ _ _ h => h) (by rfl) ?_ (by assumption) ?_
  rotate_left
  · (intro w hSw; (try dsimp only at hSw); go_simp) <;> with_reducible rfl
  try simp only [Act.put, List.setIfInBounds_toArray, List.set_cons_zero, List.set_cons_succ]
  refine takeD (i := 10) (d := some 25) (v := ?_) _ rfl rfl (by kernel_rfl) (by kernel_rfl) (by kernel_rfl) (fun _ _ _ h => h) (by rfl) ?_ (by assumption) ?_
  rotate_left
  · (intro w hSw; (try dsimp only at hSw); go_simp) <;> with_reducible rfl
  try simp only [Act.put, List.setIfInBounds_toArray, List.set_cons_zero, List.set_cons_succ]
  refine takeD (i := 11) (d := some 26) (v := ?_) _ rfl rfl (by kernel_rfl) (by kernel_rfl) (by kernel_rfl) (fun _ _ _ h => h) (by rfl) ?_ (by assumption) ?_
  rotate_left
  · (intro w hSw; (try dsimp only at hSw); go_simp) <;> with_reducible rfl
  try simp only [Act.put, List.setIfInBounds_toArray, List.set_cons_zero, List.set_cons_succ]
  refine takeD (i := 12) (d := some 27) (v := ?_) _ rfl rfl (by kernel_rfl) (by kernel_rfl) (by kernel_rfl) (fun _ _ _ h => h) (by rfl) ?_ (by assumption) ?_
  rotate_left
  · (intro w hSw; (try dsimp only at hSw); go_simp) <;> with_reducible rfl
  try simp only [Act.put, List.setIfInBounds_toArray, List.set_cons_zero, List.set_cons_succ]
  refine takeD (i := 13) (d := some 28) (v := ?_) _ rfl rfl (by kernel_rfl) (by kernel_rfl) (by kernel_rfl) (fun _ _ _ h => h) (by rfl) ?_ (by assumption) ?_
  rotate_left
  · (intro w hSw; (try dsimp only at hSw); go_simp) <;> with_reducible rfl
  try simp only [Act.put, List.setIfInBounds_toArray, List.set_cons_zero, List.set_cons_succ]
  refine takeD (i := 14) (d := some 29) (v := ?_) _ rfl rfl (by kernel_rfl) (by kernel_rfl) (by kernel_rfl) (fun _ _ _ h => h) (by rfl) ?_ (by assumption) ?_
  rotate_left
  · (intro w hSw; (try dsimp only at hSw); go_simp) <;> with_reducible rfl
  try simp only [Act.put, List.setIfInBounds_toArray, List.set_cons_zero, List.set_cons_succ]
  refine takeD (i := 15) (d := some 0) (v := ?_) _ rfl rfl (by kernel_rfl) (by kernel_rfl) (by kernel_rfl) (fun _ _ _ h => h) (by rfl) ?_ (by assumption) ?_
  rotate_left
  · (intro w hSw; (try dsimp only at hSw); go_simp) <;> with_reducible rfl
  try simp only [Act.put, List.setIfInBounds_toArray, List.set_cons_zero, List.set_cons_succ]
  refine takeD (i := 16) (d := some 1) (v := ?_) _ rfl rfl (by kernel_rfl) (by kernel_rfl) (by kernel_rfl) (fun _ _ _ h => h) (by rfl) ?_ (by assumption) ?_
  rotate_left
  · (intro w hSw; (try dsimp only at hSw); go_simp) <;> with_reducible rfl
  try simp only [Act.put, List.setIfInBounds_toArray, List.set_cons_zero, List.set_cons_succ]
  refine takeD (i := 17) (d := some 2) (v := ?_) _ rfl rfl (by kernel_rfl) (by kernel_rfl) (by kernel_rfl) (fun _ _ _ h => h) (by rfl) ?_ (by assumption) ?_
  rotate_left
  · (intro w hSw; (try dsimp only at hSw); go_simp) <;> with_reducible rfl
  try simp only [Act.put, List.setIfInBounds_toArray, List.set_cons_zero, List.set_cons_succ]
  refine wpAnyH_done (by kernel_rfl) ?_ _
  have B0 : Below w.heap.size w w.drew := hHeld
  generalize w.drew = w0 at B0 ⊢
  clear hHeld
  have HB0 := Lib.hid B0
  clear B0
  go_wp2_with fail
  go_loopw [7, 8] (fun bv iv wx => PutRel w k0 [] f1 bv iv wx) (fun _ iv _ => 20 - (intOf iv).toNat)
  case atStart => exact ⟨⟨0, Nat.zero_le _, rfl, none, 0, 0, rfl, rfl, Reads.none_, HB0.out⟩⟩
  case round =>
    obtain ⟨⟨i, hi, rfl, A, c, n, rfl, hn, hr, hb⟩⟩ := hrel
    have HR := Lib.hid hr
    have HB := Lib.hid hb
    clear hr hb
    by_cases hlt : i < k0
    · obtain ⟨b, off, rfl, hc⟩ := PF.out i hlt
      have hc1 := cell_later HB.out hc
      have hlI : (i : Int) < (k0 : Int) := by omega
      have PV := Lib.hid (putVar_any A n c (catF f1 i) (F i) wr (by simpa using HR.out) (by have := hn.out; have := n1.out i; have := HT0.out; simp at *; omega) (HF.out i))
      have hi20 : Hid (i < 20) := by have := HT0.out; unfold Hid; omega
      clear hc hi
      go_wp2_with fail
      refine PV.out.mono ?_
      intro e w1 ho
      obtain ⟨v, rfl, hv⟩ := BV.of_own ho HB.out
      have HV := Lib.hid hv
      clear ho hv PV
      go_wp2_with fail
      go_roundw
      case rel => exact ⟨⟨i + 1, hlt, by go_num, by have := HV.out; rw [← hf1.out] at this; exact this⟩⟩
      case measure => have := hi20.out; simp [intOf]; omega
    · obtain rfl : i = k0 := by omega
      have hlI : ¬ (i : Int) < (i : Int) := by omega
      go_wp2_with fail
      obtain ⟨P1, hP1⟩ : ∃ P1, Hid ([] ++ catF f1 i = P1) := ⟨_, (rfl : [] ++ catF f1 i = [] ++ catF f1 i)⟩
      have hpre : Hid (BV w (P1 ++ catF f2 0) (.slice A n c) wr) := ⟨A, c, n, rfl, by have := hn.out; unfold Hid; rw [this, ← hP1.out]; simp [catF], by have := HR.out; simpa [catF, ← hP1.out] using this, HB.out⟩
      have hP1n : Hid (P1.length ≤ 200) := by have := n1.out i; have := HT0.out; have h3 := congrArg List.length hP1.out; unfold Hid; simp at h3; omega
      clear HR HB hn hi hlt
      go_loopw [7, 9] (fun bv iv wx => PutRel w k1 P1 f2 bv iv wx) (fun _ iv _ => 20 - (intOf iv).toNat)
      case atStart => exact ⟨⟨0, Nat.zero_le _, rfl, hpre.out⟩⟩
      case round =>
        clear hpre
        obtain ⟨⟨j, hj, rfl, A2, c2, n2', rfl, hn, hr, hb⟩⟩ := hrel
        have HR := Lib.hid hr
        have HB := Lib.hid hb
        clear hr hb
        by_cases hlt : j < k1
        · obtain ⟨b, off, rfl, hc, hsz⟩ := PS.out j hlt
          have hc1 := cell_later HB.out hc
          have hlI : (j : Int) < (k1 : Int) := by omega
          have hex := hTx.out j
          have hts := TS.out j
          obtain ⟨s, hs⟩ : ∃ s, S j = s := ⟨_, rfl⟩
          rw [hs] at hc1 hsz hex
          obtain ⟨q, hq⟩ : ∃ q, min s.size 50 = q := ⟨_, rfl⟩
          rw [hq] at hex
          have mq : min (s.size : Int) 50 = (q : Int) := by omega
          have q0 : (0 : Int) ≤ (q : Int) := by omega
          have q1 : (q : Int) ≤ (s.size : Int) := by omega
          have hN : Hid (n2' ≤ 1048576) := by
            have h1 := hn.out; have h2 := n2.out j; have h3 := HT1.out; have h4 := hP1n.out
            rw [List.length_append] at h1; unfold Hid; omega
          have PT := Lib.hid fun (W : World) (hb : Below wr.heap.size wr W) => putText_any A2 n2' c2 (P1 ++ catF f2 j) (Tx j) W ((HR.out.below hb).more hb.size) hN.out (by omega)
          have hj20 : Hid (j < 20) := by have := HT1.out; unfold Hid; omega
          obtain ⟨N3, hN3⟩ : ∃ N3, n2' + (varB (Tx j).size).length + (Tx j).size = N3 := ⟨_, rfl⟩
          obtain ⟨l3, hl3⟩ : ∃ l3, P1 ++ catF f2 j ++ varB (Tx j).size ++ sB (Tx j) = l3 := ⟨_, rfl⟩
          have HL3 : Hid (P1 ++ catF f2 (j + 1) = l3) := by unfold Hid; rw [← hl3, catF, hf2.out]; simp
          rw [hN3, hl3] at PT
          rw [hex] at PT
          clear hc hj hs hq hex hts hsz hN hN3 hl3
          go_wp2_with fail
          refine wp_region_held_drew (S := (fun w' => Below wr.heap.size wr w' ∧ w'.cell? ⟨b, off + j, none⟩ = some (.string s))) (by kernel_rfl) ?_ (fun hHeld => ?_)
          · exact ⟨(Below.refl _ _).drew, hc1⟩
          refine takeD (i := 0) (d := some 48) (v := ?_) _ rfl rfl (by kernel_rfl) (by kernel_rfl) (by kernel_rfl) (fun _ _ _ h => h) (by rfl) ?_ (by assumption) ?_
          rotate_left
          · (intro w hSw; (try dsimp only at hSw); go_simp) <;> with_reducible rfl
          try simp only [Act.put, List.setIfInBounds_toArray, List.set_cons_zero, List.set_cons_succ]
          refine takeD (i := 1) (d := some 49) (v := ?_) _ rfl rfl (by kernel_rfl) (by kernel_rfl) (by kernel_rfl) (fun _ _ _ h => h) (by rfl) ?_ (by assumption) ?_
          rotate_left
          · (intro w hSw; (try dsimp only at hSw); go_simp) <;> with_reducible rfl
          try simp only [Act.put, List.setIfInBounds_toArray, List.set_cons_zero, List.set_cons_succ]
          refine takeD (i := 2) (d := some 50) (v := ?_) _ rfl rfl (by kernel_rfl) (by kernel_rfl) (by kernel_rfl) (fun _ _ _ h => h) (by rfl) ?_ (by assumption) ?_
          rotate_left
          · (intro w hSw; (try dsimp only at hSw); go_simp) <;> with_reducible rfl
          try simp only [Act.put, List.setIfInBounds_toArray, List.set_cons_zero, List.set_cons_succ]
          refine takeD (i := 3) (d := some 51) (v := ?_) _ rfl rfl (by kernel_rfl) (by kernel_rfl) (by kernel_rfl) (fun _ _ _ h => h) (by rfl) ?_ (by assumption) ?_
          rotate_left
          · (intro w hSw; (try dsimp only at hSw); go_simp) <;> with_reducible rfl
          try simp only [Act.put, List.setIfInBounds_toArray, List.set_cons_zero, List.set_cons_succ]
          refine takeD (i := 4) (d := some 52) (v := ?_) _ rfl rfl (by kernel_rfl) (by kernel_rfl) (by kernel_rfl) (fun _ _ _ h => h) (by rfl) ?_ (by assumption) ?_
          rotate_left
          · (intro w hSw; (try dsimp only at hSw); go_simp) <;> with_reducible rfl
          try simp only [Act.put, List.setIfInBounds_toArray, List.set_cons_zero, List.set_cons_succ]
          refine takeD (i := 5) (d := some 53) (v := ?_) _ rfl rfl (by kernel_rfl) (by kernel_rfl) (by kernel_rfl) (fun _ _ _ h => h) (by rfl) ?_ (by assumption) ?_
          rotate_left
          · (intro w hSw; (try dsimp only at hSw); go_simp) <;> with_reducible rfl
          try simp only [Act.put, List.setIfInBounds_toArray, List.set_cons_zero, List.set_cons_succ]
          refine takeD (i := 6) (d := some 54) (v := ?_) _ rfl rfl (by kernel_rfl) (by kernel_rfl) (by kernel_rfl) (fun _ _ _ h => h) (by rfl) ?_ (by assumption) ?_
          rotate_left
          · (intro w hSw; (try dsimp only at hSw); go_simp) <;> with_reducible rfl
          try simp only [Act.put, List.setIfInBounds_toArray, List.set_cons_zero, List.set_cons_succ]
          refine takeD (i := 7) (d := some 55) (v := ?_) _ rfl rfl (by kernel_rfl) (by kernel_rfl) (by kernel_rfl) (fun _ _ _ h => h) (by rfl) ?_ (by assumption) ?_
          rotate_left
          · (intro w hSw; (try dsimp only at hSw); go_simp) <;> with_reducible rfl
          try simp only [Act.put, List.setIfInBounds_toArray, List.set_cons_zero, List.set_cons_succ]
          refine takeD (i := 8) (d := some 56) (v := ?_) _ rfl rfl (by kernel_rfl) (by kernel_rfl) (by kernel_rfl) (fun _ _ _ h => h) (by rfl) ?_ (by assumption) ?_
          rotate_left
          · (intro w hSw; (try dsimp only at hSw); go_simp) <;> with_reducible rfl
          try simp only [Act.put, List.setIfInBounds_toArray, List.set_cons_zero, List.set_cons_succ]
          refine takeD (i := 9) (d := some 57) (v := ?_) _ rfl rfl (by kernel_rfl) (by kernel_rfl) (by kernel_rfl) (fun _ _ _ h => h) (by rfl) ?_ (by assumption) ?_
          rotate_left
          · (intro w hSw; (try dsimp only at hSw); go_simp) <;> with_reducible rfl
          try simp only [Act.put, List.setIfInBounds_toArray, List.set_cons_zero, List.set_cons_succ]
          refine takeD (i := 10) (d := some 58) (v := ?_) _ rfl rfl (by kernel_rfl) (by kernel_rfl) (by kernel_rfl) (fun _ _ _ h => h) (by rfl) ?_ (by assumption) ?_
          rotate_left
          · (intro w hSw; (try dsimp only at hSw); go_simp) <;> with_reducible rfl
          try simp only [Act.put, List.setIfInBounds_toArray, List.set_cons_zero, List.set_cons_succ]
          refine takeD (i := 11) (d := some 59) (v := ?_) _ rfl rfl (by kernel_rfl) (by kernel_rfl) (by kernel_rfl) (fun _ _ _ h => h) (by rfl) ?_ (by assumption) ?_
          rotate_left
          · (intro w hSw; (try dsimp only at hSw); go_simp) <;> with_reducible rfl
          try simp only [Act.put, List.setIfInBounds_toArray, List.set_cons_zero, List.set_cons_succ]
          refine wpAnyH_ready (rs := [12]) (by kernel_rfl) (by simp) ?_
          refine AllReadyH.cons rfl (fun K hK => ?_) AllReadyH.nil
          (go_simp; go_at_call 11; refine (PT.out _ hHeld.1).mono ?_; rintro e wt ⟨A3, c3, rfl, ho3, hbt⟩; try go_wp2_with fail)
          refine hK.out _ _ ?_ (fun hHeld => ?_)
          · exact ⟨hHeld.1.trans (hbt.mono hHeld.1.size), cell_later hbt hHeld.2⟩
          clear hK K
          try simp only [Act.put, List.setIfInBounds_toArray, List.set_cons_zero, List.set_cons_succ]
          refine takeD (i := 13) (d := some 7) (v := ?_) _ rfl rfl (by kernel_rfl) (by kernel_rfl) (by kernel_rfl) (fun _ _ _ h => h) (by rfl) ?_ (by assumption) ?_
          rotate_left
          · (intro w hSw; (try dsimp only at hSw); go_simp) <;> with_reducible rfl
          try simp only [Act.put, List.setIfInBounds_toArray, List.set_cons_zero, List.set_cons_succ]
          refine wpAnyH_done (by kernel_rfl) ?_ _
          have BF := hHeld.1
          have hv : Hid (BV w (P1 ++ catF f2 (j + 1)) (.slice A3 N3 c3) wt) := by
            have h1 := ho3.1
            rw [HL3.out]
            exact ⟨A3, c3, _, rfl, by unfold Hid; simpa using h1.symm, Reads.of_own ho3, HB.out.trans (BF.mono HB.out.size)⟩
          clear hHeld BF ho3 PT
          go_wp2_with fail
          go_roundw
          case rel => exact ⟨⟨j + 1, hlt, by go_num, hv.out⟩⟩
          case measure => have := hj20.out; simp [intOf]; omega
        · obtain rfl : j = k1 := by omega
          have hlI : ¬ (j : Int) < (j : Int) := by omega
          go_wp2_with fail
          obtain ⟨P2, hP2⟩ : ∃ P2, Hid (P1 ++ catF f2 j = P2) := ⟨_, (rfl : P1 ++ catF f2 j = P1 ++ catF f2 j)⟩
          have hpre : Hid (BV w (P2 ++ catF f3 0) (.slice A2 n2' c2) wr) := ⟨A2, c2, n2', rfl, by have := hn.out; unfold Hid; rw [this, hP2.out]; simp [catF], by have := HR.out; rw [hP2.out] at this; simpa [catF] using this, HB.out⟩
          have hP2n : Hid (P2.length ≤ 1400) := by have h1 := hP1n.out; have h2 := n2.out j; have h3 := HT1.out; have h4 := congrArg List.length hP2.out; rw [List.length_append] at h4; unfold Hid; omega
          clear HR HB hn hj hlt
          go_loopw [7, 10] (fun bv iv wx => PutRel w k2 P2 f3 bv iv wx) (fun _ iv _ => 20 - (intOf iv).toNat)
          case atStart => exact ⟨⟨0, Nat.zero_le _, rfl, hpre.out⟩⟩
          case round =>
            clear hpre
            obtain ⟨⟨t, ht, rfl, A4, c4, n4, rfl, hn, hr, hb⟩⟩ := hrel
            have HR := Lib.hid hr
            have HB := Lib.hid hb
            clear hr hb
            have hN : Hid (n4 ≤ 1048576) := by
              have h1 := hn.out; have h2 := n3.out t; have h3 := HT2.out; have h4 := hP2n.out
              rw [List.length_append] at h1; unfold Hid; omega
            by_cases hlt : t < k2
            · obtain ⟨b, off, rfl, hc⟩ := PG.out t hlt
              have hc1 := cell_later HB.out hc
              have hlI : (t : Int) < (k2 : Int) := by omega
              have PW := Lib.hid (putWord_any A4 n4 c4 (P2 ++ catF f3 t) (G t : Int) wr HR.out hN.out (by omega) (by have := HG.out t; omega))
              have ht20 : Hid (t < 20) := by have := HT2.out; unfold Hid; omega
              clear hc ht hN
              go_wp2_with fail
              refine PW.out.mono ?_
              intro e w1 ho
              obtain ⟨v, rfl, hv⟩ := BV.of_own ho HB.out
              have HV := Lib.hid hv
              clear ho hv PW
              go_wp2_with fail
              go_roundw
              case rel => exact ⟨⟨t + 1, hlt, by go_num, by have := HV.out; rw [← hf3.out, List.append_assoc] at this; exact this⟩⟩
              case measure => have := ht20.out; simp [intOf]; omega
            · obtain rfl : t = k2 := by omega
              have hlI : ¬ (t : Int) < (t : Int) := by omega
              obtain ⟨full, hfull⟩ : ∃ full, Hid (P2 ++ catF f3 t = full) := ⟨_, (rfl : P2 ++ catF f3 t = P2 ++ catF f3 t)⟩
              have hby : Hid (Bytes full) := by
                unfold Hid
                rw [← hfull.out, ← hP2.out, ← hP1.out]
                refine bytes_mem (bytes_app (bytes_app (bytes_app (fun u hu => by cases hu) (catF_bytes f1 (fun i => by rw [hf1.out]; exact varB_mem _ (HF.out i)) _)) (catF_bytes f2 (fun i => by rw [hf2.out]; exact bytes_app (varB_mem _ (by have := TS.out i; omega)) (sB_mem _)) _)) (catF_bytes f3 (fun i => by rw [hf3.out]; exact wordB_mem _ (by omega) (by have := HG.out i; omega)) _))
              have NR := Lib.hid (newReader_any A4 n4 c4 full wr (by have := HR.out; rw [hfull.out] at this; exact this) hby.out hN.out (by have := hn.out; rw [hfull.out] at this; exact this.symm))
              clear HR hn ht hlt hN hby
              go_wp2_with fail
              refine NR.out.mono ?_
              rintro e w1 ⟨r, rfl, RD, hr, b1⟩
              have HRr : Hid (w.heap.size ≤ r) := by have := HB.out.size; unfold Hid; omega
              have HRD := Lib.hid RD
              have HBW := Lib.hid (HB.out.trans (b1.mono HB.out.size))
              clear RD b1 hr HB NR
              go_wp2_with fail
              go_loopw [12] (fun iv wx => RdRel w r i full [] f1 iv wx) (fun iv _ => 20 - (intOf iv).toNat)
              case atStart => exact ⟨⟨0, Nat.zero_le _, rfl, by have := HRD.out; simpa [catF, ← hP1.out, ← hP2.out] using this, HBW.out⟩⟩
              case round =>
                clear HRD HBW
                obtain ⟨⟨u, hi, rfl, RD, BW⟩⟩ := hrel
                have HRD := Lib.hid RD
                have HBW := Lib.hid BW
                clear RD BW
                by_cases hlt : u < i
                · obtain ⟨R, hd, hnext, hle⟩ := drop_at (full := full) (pre := []) (post := catF f2 j ++ catF f3 t) (f := f1) (k := i) (by rw [← hfull.out, ← hP2.out, ← hP1.out]; simp) hlt
                  obtain ⟨b, off, rfl, hc⟩ := PF.out u hlt
                  have hc1 := cell_later HBW.out hc
                  have hbr : Hid (b ≠ r) := by have h1 : b < w.heap.size := World.block_lt_of_cell? _ _ hc; have h2 := HRr.out; unfold Hid; omega
                  have hm := HF.out u
                  obtain ⟨m, hmm⟩ : ∃ m, F u = m := ⟨_, rfl⟩
                  have hfm := hf1.out u
                  rw [hmm] at hc1 hm hfm
                  clear hc hmm
                  have hlI : (u : Int) < (i : Int) := by omega
                  have hi20 : Hid (u < 20) := by have := HT0.out; unfold Hid; omega
                  obtain ⟨at_, hat⟩ : ∃ at_, ([] ++ catF f1 u).length = at_ := ⟨_, rfl⟩
                  have HAT : Hid (([] ++ catF f1 u).length = at_) := hat
                  rw [hat] at hd hnext hle HRD
                  have HNX := Lib.hid hnext
                  obtain ⟨q1, q2, q3⟩ := varB_bound m (m : Int) hm (Int.le_refl _) R
                  rw [hfm] at hd HNX
                  have CT : Hid (∀ (W : World), Below wr.heap.size wr W → Calls Tryd.prog 23 #[.pointer (some ⟨r, 0, none⟩), .int .u64 (m : Int)] W fun e w' => e = .returned (.int .u64 (m : Int)) ∧ RdF w' r (at_ + (varB m).length) 0 full ∧ Past r W w') := fun W hb => by
                    have := var_any W r at_ 0 full (m : Int) (HRD.out.below hb)
                    simp only [if_true] at this
                    rw [hd, q1, q2, q3] at this
                    exact this
                  clear q1 q2 q3 hm hfm
                  clear hd hnext hle hat hi
                  go_wp2_with fail
                  refine wp_region_held_drew (S := (fun w' => w'.cell? ⟨b, off + u, none⟩ = some (.int .u64 (m : Int)))) (by kernel_rfl) ?_ (fun hHeld => ?_)
                  · exact hc1
                  refine takeD (i := 0) (d := some 83) (v := ?_) _ rfl rfl (by kernel_rfl) (by kernel_rfl) (by kernel_rfl) (fun _ _ _ h => h) (by rfl) ?_ (by assumption) ?_
                  rotate_left
                  · (intro w hSw; (try dsimp only at hSw); go_simp) <;> with_reducible rfl
                  try simp only [Act.put, List.setIfInBounds_toArray, List.set_cons_zero, List.set_cons_succ]
                  refine takeD (i := 1) (d := some 84) (v := ?_) _ rfl rfl (by kernel_rfl) (by kernel_rfl) (by kernel_rfl) (fun _ _ _ h => h) (by rfl) ?_ (by assumption) ?_
                  rotate_left
                  · (intro w hSw; (try dsimp only at hSw); go_simp) <;> with_reducible rfl
                  try simp only [Act.put, List.setIfInBounds_toArray, List.set_cons_zero, List.set_cons_succ]
                  refine takeD (i := 2) (d := some 85) (v := ?_) _ rfl rfl (by kernel_rfl) (by kernel_rfl) (by kernel_rfl) (fun _ _ _ h => h) (by rfl) ?_ (by assumption) ?_
                  rotate_left
                  · (intro w hSw; (try dsimp only at hSw); go_simp) <;> with_reducible rfl
                  try simp only [Act.put, List.setIfInBounds_toArray, List.set_cons_zero, List.set_cons_succ]
                  refine takeD (i := 3) (d := some 86) (v := ?_) _ rfl rfl (by kernel_rfl) (by kernel_rfl) (by kernel_rfl) (fun _ _ _ h => h) (by rfl) ?_ (by assumption) ?_
                  rotate_left
                  · (intro w hSw; (try dsimp only at hSw); go_simp) <;> with_reducible rfl
                  try simp only [Act.put, List.setIfInBounds_toArray, List.set_cons_zero, List.set_cons_succ]
                  refine takeD (i := 4) (d := some 87) (v := ?_) _ rfl rfl (by kernel_rfl) (by kernel_rfl) (by kernel_rfl) (fun _ _ _ h => h) (by rfl) ?_ (by assumption) ?_
                  rotate_left
                  · (intro w hSw; (try dsimp only at hSw); go_simp) <;> with_reducible rfl
                  try simp only [Act.put, List.setIfInBounds_toArray, List.set_cons_zero, List.set_cons_succ]
                  refine takeD (i := 6) (d := some 89) (v := ?_) _ rfl rfl (by kernel_rfl) (by kernel_rfl) (by kernel_rfl) (fun _ _ _ h => h) (by rfl) ?_ (by assumption) ?_
                  rotate_left
                  · (intro w hSw; (try dsimp only at hSw); go_simp) <;> with_reducible rfl
                  try simp only [Act.put, List.setIfInBounds_toArray, List.set_cons_zero, List.set_cons_succ]
                  refine takeD (i := 7) (d := some 90) (v := ?_) _ rfl rfl (by kernel_rfl) (by kernel_rfl) (by kernel_rfl) (fun _ _ _ h => h) (by rfl) ?_ (by assumption) ?_
                  rotate_left
                  · (intro w hSw; (try dsimp only at hSw); go_simp) <;> with_reducible rfl
                  try simp only [Act.put, List.setIfInBounds_toArray, List.set_cons_zero, List.set_cons_succ]
                  refine takeD (i := 8) (d := some 91) (v := ?_) _ rfl rfl (by kernel_rfl) (by kernel_rfl) (by kernel_rfl) (fun _ _ _ h => h) (by rfl) ?_ (by assumption) ?_
                  rotate_left
                  · (intro w hSw; (try dsimp only at hSw); go_simp) <;> with_reducible rfl
                  try simp only [Act.put, List.setIfInBounds_toArray, List.set_cons_zero, List.set_cons_succ]
                  refine takeD (i := 9) (d := some 92) (v := ?_) _ rfl rfl (by kernel_rfl) (by kernel_rfl) (by kernel_rfl) (fun _ _ _ h => h) (by rfl) ?_ (by assumption) ?_
                  rotate_left
                  · (intro w hSw; (try dsimp only at hSw); go_simp) <;> with_reducible rfl
                  try simp only [Act.put, List.setIfInBounds_toArray, List.set_cons_zero, List.set_cons_succ]
                  refine wpAnyH_ready (rs := [5]) (by kernel_rfl) (by simp) ?_
                  refine AllReadyH.cons rfl (fun K hK => ?_) AllReadyH.nil
                  (go_simp; go_at_call 23; refine (CT.out _ (Below.refl _ _).drew).mono ?_; rintro e wt ⟨rfl, RDn, Pn⟩; try go_wp2_with fail)
                  refine hK.out _ _ ?_ (fun hHeld => ?_)
                  · exact cellPast Pn hHeld hbr.out
                  clear hK K
                  try simp only [Act.put, List.setIfInBounds_toArray, List.set_cons_zero, List.set_cons_succ]
                  refine takeD (i := 10) (d := some 93) (v := ?_) _ rfl rfl (by kernel_rfl) (by kernel_rfl) (by kernel_rfl) (fun _ _ _ h => h) (by rfl) ?_ (by assumption) ?_
                  rotate_left
                  · (intro w hSw; (try dsimp only at hSw); go_simp) <;> with_reducible rfl
                  try simp only [Act.put, List.setIfInBounds_toArray, List.set_cons_zero, List.set_cons_succ]
                  refine wpAnyH_done (by kernel_rfl) ?_ _
                  have BWn := Lib.hid (HBW.out.trans (((Past.of_below (x := r) (Below.refl wr.heap.size wr).drew).trans Pn).below HRr.out HBW.out.size))
                  have RDn2 : Hid (RdF wt r ([] ++ catF f1 (u + 1)).length 0 full) := by have h1 := RDn; have h2 := HNX.out; unfold Hid; rw [h2]; exact h1
                  clear hHeld RDn Pn CT
                  go_wp2_with fail
                  go_roundw
                  case rel => exact ⟨⟨u + 1, hlt, by go_num, RDn2.out, BWn.out⟩⟩
                  case measure => have := hi20.out; simp [intOf]; omega
                · obtain rfl : i = u := by omega
                  have hlI : ¬ (i : Int) < (i : Int) := by omega
                  clear hi hlt
                  go_wp2_with fail
                  go_loopw [13] (fun iv wx => RdRel w r j full P1 f2 iv wx) (fun iv _ => 20 - (intOf iv).toNat)
                  case atStart => exact ⟨⟨0, Nat.zero_le _, rfl, by have := HRD.out; simpa [catF, ← hP1.out, ← hP2.out] using this, HBW.out⟩⟩
                  case round =>
                    clear HRD HBW
                    obtain ⟨⟨u, hi, rfl, RD, BW⟩⟩ := hrel
                    have HRD := Lib.hid RD
                    have HBW := Lib.hid BW
                    clear RD BW
                    by_cases hlt : u < j
                    · obtain ⟨R, hd, hnext, hle⟩ := drop_at (full := full) (pre := P1) (post := catF f3 t) (f := f2) (k := j) (by rw [← hfull.out, ← hP2.out]) hlt
                      obtain ⟨b, off, rfl, hc, hsz⟩ := PS.out u hlt
                      have hc1 := cell_later HBW.out hc
                      have hbr : Hid (b ≠ r) := by have h1 : b < w.heap.size := World.block_lt_of_cell? _ _ hc; have h2 := HRr.out; unfold Hid; omega
                      have hex := hTx.out u
                      have hts := TS.out u
                      have hfm := hf2.out u
                      obtain ⟨s, hs⟩ : ∃ s, S u = s := ⟨_, rfl⟩
                      rw [hs] at hc1 hsz hex
                      obtain ⟨q, hq⟩ : ∃ q, min s.size 50 = q := ⟨_, rfl⟩
                      rw [hq] at hex
                      have mq : min (s.size : Int) 50 = (q : Int) := by omega
                      have qz0 : (0 : Int) ≤ (q : Int) := by omega
                      have qz1 : (q : Int) ≤ (s.size : Int) := by omega
                      clear hc hs hq hsz
                      have hlI : (u : Int) < (j : Int) := by omega
                      have hi20 : Hid (u < 20) := by have := HT1.out; unfold Hid; omega
                      obtain ⟨at_, hat⟩ : ∃ at_, (P1 ++ catF f2 u).length = at_ := ⟨_, rfl⟩
                      have HAT : Hid ((P1 ++ catF f2 u).length = at_) := hat
                      rw [hat] at hd hnext hle HRD
                      have HNX := Lib.hid hnext
                      obtain ⟨q1, q2, q3⟩ := text_back (Tx u) 50 (by omega) (by omega) R
                      rw [hfm] at hd HNX
                      have CT : Hid (∀ (W : World), Below wr.heap.size wr W → Calls Tryd.prog 25 #[.pointer (some ⟨r, 0, none⟩), .int .i64 50] W fun e w' => e = .returned (.string (Tx u)) ∧ RdF w' r (at_ + ((varB (Tx u).size) ++ sB (Tx u)).length) 0 full ∧ Past r W w') := fun W hb => by
                        have := text_any W r at_ 0 full 50 (by omega) (HRD.out.below hb)
                        simp only [if_true] at this
                        rw [hd, q1, q2, q3] at this
                        rw [List.length_append, sB_len]
                        exact this
                      obtain ⟨LL, hLL⟩ : ∃ LL, at_ + ((varB (Tx u).size) ++ sB (Tx u)).length = LL := ⟨_, rfl⟩
                      rw [hLL] at CT HNX
                      rw [hex] at CT
                      clear q1 q2 q3 hfm hex hts hLL
                      clear hd hnext hle hat hi
                      go_wp2_with fail
                      refine wp_region_held_drew (S := (fun w' => w'.cell? ⟨b, off + u, none⟩ = some (.string s))) (by kernel_rfl) ?_ (fun hHeld => ?_)
                      · exact hc1
                      refine takeD (i := 0) (d := some 100) (v := ?_) _ rfl rfl (by kernel_rfl) (by kernel_rfl) (by kernel_rfl) (fun _ _ _ h => h) (by rfl) ?_ (by assumption) ?_
                      rotate_left
                      · (intro w hSw; (try dsimp only at hSw); go_simp) <;> with_reducible rfl
                      try simp only [Act.put, List.setIfInBounds_toArray, List.set_cons_zero, List.set_cons_succ]
                      refine takeD (i := 2) (d := some 102) (v := ?_) _ rfl rfl (by kernel_rfl) (by kernel_rfl) (by kernel_rfl) (fun _ _ _ h => h) (by rfl) ?_ (by assumption) ?_
                      rotate_left
                      · (intro w hSw; (try dsimp only at hSw); go_simp) <;> with_reducible rfl
                      try simp only [Act.put, List.setIfInBounds_toArray, List.set_cons_zero, List.set_cons_succ]
                      refine takeD (i := 3) (d := some 103) (v := ?_) _ rfl rfl (by kernel_rfl) (by kernel_rfl) (by kernel_rfl) (fun _ _ _ h => h) (by rfl) ?_ (by assumption) ?_
                      rotate_left
                      · (intro w hSw; (try dsimp only at hSw); go_simp) <;> with_reducible rfl
                      try simp only [Act.put, List.setIfInBounds_toArray, List.set_cons_zero, List.set_cons_succ]
                      refine takeD (i := 4) (d := some 104) (v := ?_) _ rfl rfl (by kernel_rfl) (by kernel_rfl) (by kernel_rfl) (fun _ _ _ h => h) (by rfl) ?_ (by assumption) ?_
                      rotate_left
                      · (intro w hSw; (try dsimp only at hSw); go_simp) <;> with_reducible rfl
                      try simp only [Act.put, List.setIfInBounds_toArray, List.set_cons_zero, List.set_cons_succ]
                      refine takeD (i := 5) (d := some 105) (v := ?_) _ rfl rfl (by kernel_rfl) (by kernel_rfl) (by kernel_rfl) (fun _ _ _ h => h) (by rfl) ?_ (by assumption) ?_
                      rotate_left
                      · (intro w hSw; (try dsimp only at hSw); go_simp) <;> with_reducible rfl
                      try simp only [Act.put, List.setIfInBounds_toArray, List.set_cons_zero, List.set_cons_succ]
                      refine takeD (i := 6) (d := some 106) (v := ?_) _ rfl rfl (by kernel_rfl) (by kernel_rfl) (by kernel_rfl) (fun _ _ _ h => h) (by rfl) ?_ (by assumption) ?_
                      rotate_left
                      · (intro w hSw; (try dsimp only at hSw); go_simp) <;> with_reducible rfl
                      try simp only [Act.put, List.setIfInBounds_toArray, List.set_cons_zero, List.set_cons_succ]
                      refine takeD (i := 7) (d := some 107) (v := ?_) _ rfl rfl (by kernel_rfl) (by kernel_rfl) (by kernel_rfl) (fun _ _ _ h => h) (by rfl) ?_ (by assumption) ?_
                      rotate_left
                      · (intro w hSw; (try dsimp only at hSw); go_simp) <;> with_reducible rfl
                      try simp only [Act.put, List.setIfInBounds_toArray, List.set_cons_zero, List.set_cons_succ]
                      refine takeD (i := 8) (d := some 108) (v := ?_) _ rfl rfl (by kernel_rfl) (by kernel_rfl) (by kernel_rfl) (fun _ _ _ h => h) (by rfl) ?_ (by assumption) ?_
                      rotate_left
                      · (intro w hSw; (try dsimp only at hSw); go_simp) <;> with_reducible rfl
                      try simp only [Act.put, List.setIfInBounds_toArray, List.set_cons_zero, List.set_cons_succ]
                      refine takeD (i := 9) (d := some 109) (v := ?_) _ rfl rfl (by kernel_rfl) (by kernel_rfl) (by kernel_rfl) (fun _ _ _ h => h) (by rfl) ?_ (by assumption) ?_
                      rotate_left
                      · (intro w hSw; (try dsimp only at hSw); go_simp) <;> with_reducible rfl
                      try simp only [Act.put, List.setIfInBounds_toArray, List.set_cons_zero, List.set_cons_succ]
                      refine takeD (i := 10) (d := some 110) (v := ?_) _ rfl rfl (by kernel_rfl) (by kernel_rfl) (by kernel_rfl) (fun _ _ _ h => h) (by rfl) ?_ (by assumption) ?_
                      rotate_left
                      · (intro w hSw; (try dsimp only at hSw); go_simp) <;> with_reducible rfl
                      try simp only [Act.put, List.setIfInBounds_toArray, List.set_cons_zero, List.set_cons_succ]
                      refine takeD (i := 11) (d := some 111) (v := ?_) _ rfl rfl (by kernel_rfl) (by kernel_rfl) (by kernel_rfl) (fun _ _ _ h => h) (by rfl) ?_ (by assumption) ?_
                      rotate_left
                      · (intro w hSw; (try dsimp only at hSw); go_simp) <;> with_reducible rfl
                      try simp only [Act.put, List.setIfInBounds_toArray, List.set_cons_zero, List.set_cons_succ]
                      refine takeD (i := 12) (d := some 112) (v := ?_) _ rfl rfl (by kernel_rfl) (by kernel_rfl) (by kernel_rfl) (fun _ _ _ h => h) (by rfl) ?_ (by assumption) ?_
                      rotate_left
                      · (intro w hSw; (try dsimp only at hSw); go_simp) <;> with_reducible rfl
                      try simp only [Act.put, List.setIfInBounds_toArray, List.set_cons_zero, List.set_cons_succ]
                      refine wpAnyH_ready (rs := [1]) (by kernel_rfl) (by simp) ?_
                      refine AllReadyH.cons rfl (fun K hK => ?_) AllReadyH.nil
                      (go_simp; go_at_call 25; refine (CT.out _ (Below.refl _ _).drew).mono ?_; rintro e wt ⟨rfl, RDn, Pn⟩; try go_wp2_with fail)
                      refine hK.out _ _ ?_ (fun hHeld => ?_)
                      · exact cellPast Pn hHeld hbr.out
                      clear hK K
                      try simp only [Act.put, List.setIfInBounds_toArray, List.set_cons_zero, List.set_cons_succ]
                      refine takeD (i := 13) (d := some 113) (v := ?_) _ rfl rfl (by kernel_rfl) (by kernel_rfl) (by kernel_rfl) (fun _ _ _ h => h) (by rfl) ?_ (by assumption) ?_
                      rotate_left
                      · (intro w hSw; (try dsimp only at hSw); go_simp) <;> with_reducible rfl
                      try simp only [Act.put, List.setIfInBounds_toArray, List.set_cons_zero, List.set_cons_succ]
                      refine wpAnyH_done (by kernel_rfl) ?_ _
                      have BWn := Lib.hid (HBW.out.trans (((Past.of_below (x := r) (Below.refl wr.heap.size wr).drew).trans Pn).below HRr.out HBW.out.size))
                      have RDn2 : Hid (RdF wt r (P1 ++ catF f2 (u + 1)).length 0 full) := by have h1 := RDn; have h2 := HNX.out; unfold Hid; rw [h2]; exact h1
                      clear hHeld RDn Pn CT
                      go_wp2_with fail
                      go_roundw
                      case rel => exact ⟨⟨u + 1, hlt, by go_num, RDn2.out, BWn.out⟩⟩
                      case measure => have := hi20.out; simp [intOf]; omega
                    · obtain rfl : j = u := by omega
                      have hlI : ¬ (j : Int) < (j : Int) := by omega
                      clear hi hlt
                      go_wp2_with fail
                      go_loopw [14] (fun iv wx => RdRel w r t full P2 f3 iv wx) (fun iv _ => 20 - (intOf iv).toNat)
                      case atStart => exact ⟨⟨0, Nat.zero_le _, rfl, by have := HRD.out; simpa [catF, ← hP1.out, ← hP2.out] using this, HBW.out⟩⟩
                      case round =>
                        clear HRD HBW
                        obtain ⟨⟨u, hi, rfl, RD, BW⟩⟩ := hrel
                        have HRD := Lib.hid RD
                        have HBW := Lib.hid BW
                        clear RD BW
                        by_cases hlt : u < t
                        · obtain ⟨R, hd, hnext, hle⟩ := drop_at (full := full) (pre := P2) (post := []) (f := f3) (k := t) (by rw [← hfull.out]; simp) hlt
                          obtain ⟨b, off, rfl, hc⟩ := PG.out u hlt
                          have hc1 := cell_later HBW.out hc
                          have hbr : Hid (b ≠ r) := by have h1 : b < w.heap.size := World.block_lt_of_cell? _ _ hc; have h2 := HRr.out; unfold Hid; omega
                          have hm := HG.out u
                          obtain ⟨m, hmm⟩ : ∃ m, G u = m := ⟨_, rfl⟩
                          have hfm := hf3.out u
                          rw [hmm] at hc1 hm hfm
                          clear hc hmm
                          have hlI : (u : Int) < (t : Int) := by omega
                          have hi20 : Hid (u < 20) := by have := HT2.out; unfold Hid; omega
                          obtain ⟨at_, hat⟩ : ∃ at_, (P2 ++ catF f3 u).length = at_ := ⟨_, rfl⟩
                          have HAT : Hid ((P2 ++ catF f3 u).length = at_) := hat
                          rw [hat] at hd hnext hle HRD
                          have HNX := Lib.hid hnext
                          rw [hfm] at hd HNX hle
                          have CT : Hid (∀ (W : World), Below wr.heap.size wr W → Calls Tryd.prog 21 #[.pointer (some ⟨r, 0, none⟩)] W fun e w' => e = .returned (.int .u32 (m : Int)) ∧ RdF w' r (at_ + (wordB (m : Int)).length) 0 full ∧ Past r W w') := fun W hb => by
                            have := word_good W r at_ full (HRD.out.below hb) (by simpa [wordB] using hle)
                            rw [hd, word_again (m : Int) (by omega) (by omega) R] at this
                            exact this
                          clear hm hfm
                          clear hd hnext hle hat hi
                          go_wp2_with fail
                          refine wp_region_held_drew (S := (fun w' => w'.cell? ⟨b, off + u, none⟩ = some (.int .u32 (m : Int)))) (by kernel_rfl) ?_ (fun hHeld => ?_)
                          · exact hc1
                          refine takeD (i := 0) (d := some 120) (v := ?_) _ rfl rfl (by kernel_rfl) (by kernel_rfl) (by kernel_rfl) (fun _ _ _ h => h) (by rfl) ?_ (by assumption) ?_
                          rotate_left
                          · (intro w hSw; (try dsimp only at hSw); go_simp) <;> with_reducible rfl
                          try simp only [Act.put, List.setIfInBounds_toArray, List.set_cons_zero, List.set_cons_succ]
                          refine takeD (i := 2) (d := some 122) (v := ?_) _ rfl rfl (by kernel_rfl) (by kernel_rfl) (by kernel_rfl) (fun _ _ _ h => h) (by rfl) ?_ (by assumption) ?_
                          rotate_left
                          · (intro w hSw; (try dsimp only at hSw); go_simp) <;> with_reducible rfl
                          try simp only [Act.put, List.setIfInBounds_toArray, List.set_cons_zero, List.set_cons_succ]
                          refine takeD (i := 3) (d := some 123) (v := ?_) _ rfl rfl (by kernel_rfl) (by kernel_rfl) (by kernel_rfl) (fun _ _ _ h => h) (by rfl) ?_ (by assumption) ?_
                          rotate_left
                          · (intro w hSw; (try dsimp only at hSw); go_simp) <;> with_reducible rfl
                          try simp only [Act.put, List.setIfInBounds_toArray, List.set_cons_zero, List.set_cons_succ]
                          refine takeD (i := 4) (d := some 124) (v := ?_) _ rfl rfl (by kernel_rfl) (by kernel_rfl) (by kernel_rfl) (fun _ _ _ h => h) (by rfl) ?_ (by assumption) ?_
                          rotate_left
                          · (intro w hSw; (try dsimp only at hSw); go_simp) <;> with_reducible rfl
                          try simp only [Act.put, List.setIfInBounds_toArray, List.set_cons_zero, List.set_cons_succ]
                          refine takeD (i := 5) (d := some 125) (v := ?_) _ rfl rfl (by kernel_rfl) (by kernel_rfl) (by kernel_rfl) (fun _ _ _ h => h) (by rfl) ?_ (by assumption) ?_
                          rotate_left
                          · (intro w hSw; (try dsimp only at hSw); go_simp) <;> with_reducible rfl
                          try simp only [Act.put, List.setIfInBounds_toArray, List.set_cons_zero, List.set_cons_succ]
                          refine wpAnyH_ready (rs := [1]) (by kernel_rfl) (by simp) ?_
                          refine AllReadyH.cons rfl (fun K hK => ?_) AllReadyH.nil
                          (go_simp; go_at_call 21; refine (CT.out _ (Below.refl _ _).drew).mono ?_; rintro e wt ⟨rfl, RDn, Pn⟩; try go_wp2_with fail)
                          refine hK.out _ _ ?_ (fun hHeld => ?_)
                          · exact cellPast Pn hHeld hbr.out
                          clear hK K
                          try simp only [Act.put, List.setIfInBounds_toArray, List.set_cons_zero, List.set_cons_succ]
                          refine takeD (i := 6) (d := some 126) (v := ?_) _ rfl rfl (by kernel_rfl) (by kernel_rfl) (by kernel_rfl) (fun _ _ _ h => h) (by rfl) ?_ (by assumption) ?_
                          rotate_left
                          · (intro w hSw; (try dsimp only at hSw); go_simp) <;> with_reducible rfl
                          try simp only [Act.put, List.setIfInBounds_toArray, List.set_cons_zero, List.set_cons_succ]
                          refine wpAnyH_done (by kernel_rfl) ?_ _
                          have BWn := Lib.hid (HBW.out.trans (((Past.of_below (x := r) (Below.refl wr.heap.size wr).drew).trans Pn).below HRr.out HBW.out.size))
                          have RDn2 : Hid (RdF wt r (P2 ++ catF f3 (u + 1)).length 0 full) := by have h1 := RDn; have h2 := HNX.out; unfold Hid; rw [h2]; exact h1
                          clear hHeld RDn Pn CT
                          go_wp2_with fail
                          go_roundw
                          case rel => exact ⟨⟨u + 1, hlt, by go_num, RDn2.out, BWn.out⟩⟩
                          case measure => have := hi20.out; simp [intOf]; omega
                        · obtain rfl : t = u := by omega
                          have hlI : ¬ (t : Int) < (t : Int) := by omega
                          clear hi hlt
                          go_wp2_with fail
                          have KN := Lib.hid fun (W : World) (hb : Below wr.heap.size wr W) => known_any W ((HL.out.later HBW.out).later hb)
                          have ED := Lib.hid fun (W : World) (hb : Below wr.heap.size wr W) => end_any W r _ 0 full (HRD.out.below hb)
                          have LF := Lib.hid fun (W : World) (hb : Below wr.heap.size wr W) => left_any W r _ 0 full (HRD.out.below hb)
                          have ee : endE full.length (P2 ++ catF f3 t).length 0 = 0 := by rw [hfull.out]; simp [endE]
                          have el : (full.length : Int) - ((P2 ++ catF f3 t).length : Int) = 0 := by rw [hfull.out]; omega
                          rw [ee] at ED
                          rw [el] at LF
                          clear ee el
                          refine (KN.out _ (Below.refl _ _)).mono ?_
                          rintro e w2 ⟨rfl, b2⟩
                          go_wp2_with fail
                          refine (ED.out _ b2).mono ?_
                          rintro e w3 ⟨rfl, b3⟩
                          have b4 := b2.trans (b3.mono b2.size)
                          go_wp2_with fail
                          refine (LF.out _ b4).mono ?_
                          rintro e w4 ⟨rfl, b5⟩
                          have BF := HBW.out.trans ((b4.trans (b5.mono b4.size)).mono HBW.out.size)
                          go_wp2_with fail
                          go_ret
                          exact ⟨rfl, BF⟩
end Go.Proofs.YthcegmijphbhgaaDoor
