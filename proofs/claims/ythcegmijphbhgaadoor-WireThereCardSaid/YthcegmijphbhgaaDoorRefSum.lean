/-
  The contract of the reference's Sum, bit by bit: the mathematics of its register. Each statement bears its own conditions.
-/
import Derived.Test.YthcegmijphbhgaaDoorFlip
namespace Go.Proofs.YthcegmijphbhgaaDoor
open Go.RowKit
set_option linter.unusedSimpArgs false
set_option linter.unusedVariables false
/-- The register's bits, the highest first. -/
def bitR (R : BitVec 32) (i : Nat) : Bool := R.getLsbD (31 - i)
theorem bitR_st (R : BitVec 32) (i : Nat) (hi : i < 31) : bitR (st R) i = (bitR R (i + 1) ^^ (bitR R 0 && bitR 0x04c11db7#32 i)) := by
  unfold bitR st
  rw [BitVec.getLsbD_xor, BitVec.getLsbD_shiftLeft]
  have h1 : 31 - i < 32 := by omega
  have h2 : ¬ 31 - i < 1 := by omega
  have h3 : 31 - i - 1 = 31 - (i + 1) := by omega
  rw [h3]
  cases hR : R.getLsbD (31 - 0) <;> simp at hR <;> simp [h1, h2, hR]
theorem bitR_st31 (R : BitVec 32) : bitR (st R) 31 = (bitR R 0 && bitR 0x04c11db7#32 31) := by
  unfold bitR st
  rw [BitVec.getLsbD_xor, BitVec.getLsbD_shiftLeft]
  cases hR : R.getLsbD (31 - 0) <;> simp at hR <;> simp [hR]
theorem bitR_byte (R : BitVec 32) (y i : Nat) (hy : y < 256) (hi : i < 32) : bitR (R ^^^ BitVec.ofNat 32 (y * 16777216)) i = (bitR R i ^^ (decide (i < 8) && y.testBit (7 - i))) := by
  unfold bitR
  rw [BitVec.getLsbD_xor]
  congr 1
  rw [BitVec.getLsbD_ofNat, show (16777216 : Nat) = 2 ^ 24 by rfl, Nat.testBit_mul_two_pow]
  have h1 : 31 - i < 32 := by omega
  by_cases h : i < 8
  · have a : 24 ≤ 31 - i := by omega
    have b : 31 - i - 24 = 7 - i := by omega
    simp [h, h1, a, b]
  · have a : ¬ 24 ≤ 31 - i := by omega
    simp [h, h1, a]
/-- The complement, from the highest bit down. -/
theorem comp_next (R : BitVec 32) (i : Nat) (hi : i < 32) : (~~~R).toNat / 2 ^ (32 - (i + 1)) = 2 * ((~~~R).toNat / 2 ^ (32 - i)) + (if bitR R i then 0 else 1) := by
  have e : (~~~R).toNat.testBit (31 - i) = !(bitR R i) := by
    have : (~~~R).getLsbD (31 - i) = !(R.getLsbD (31 - i)) := by rw [BitVec.getLsbD_not]; simp; omega
    exact this
  rw [Nat.testBit_eq_decide_div_mod_eq] at e
  have p : 32 - i = (32 - (i + 1)) + 1 := by omega
  have p2 : 31 - i = 32 - (i + 1) := by omega
  rw [p, Nat.pow_succ, ← Nat.div_div_eq_div_mul]
  rw [p2] at e
  generalize (~~~R).toNat / 2 ^ (32 - (i + 1)) = x at *
  cases hb : bitR R i <;> simp [hb] at e ⊢ <;> omega
theorem comp_all (R : BitVec 32) : ((~~~R).toNat : Int) = bits BinOp.xor IntKind.u32 4294967295 (R.toNat : Int) := by
  have e2 := u32_xor_nat 4294967295 R.toNat (by omega) R.isLt
  rw [show ((4294967295 : Nat) : Int) = 4294967295 from rfl] at e2
  rw [e2]
  congr 1
theorem comp_sum (l : List Int) (h : Octets l) : ((~~~(feed 0xffffffff#32 l)).toNat : Int) = sumV l := by
  unfold sumV
  rw [crcL_feed l h, comp_all]
theorem feed_next (R : BitVec 32) (l : List Int) (k : Nat) (h : k < l.length) : feed R (l.take (k + 1)) = feedB (feed R (l.take k)) (l.getD k 0) := by
  unfold feed
  rw [List.take_succ_eq_append_getElem h, List.foldl_append]
  simp only [List.foldl_cons, List.foldl_nil, List.getD_eq_getElem?_getD, List.getElem?_eq_getElem h, Option.getD_some]
theorem sts_next (n : Nat) (R : BitVec 32) : sts (n + 1) R = st (sts n R) := by rw [sts_add]; rfl
/-- A block of 32 bools. -/
structure Bools (wr : World) (b : Nat) (f : Nat → Bool) : Prop where
  lt : b < wr.heap.size
  cell : ∀ i, i < 32 → wr.cell? ⟨b, i, none⟩ = some (.bool (f i))
  free : ∀ i, wr.frozen? ⟨b, i, none⟩ = false
theorem Bools.set {wr : World} {b : Nat} {f : Nat → Bool} (h : Bools wr b f) (j : Nat) (hj : j < 32) (x : Bool) : Bools (wr.setCell ⟨b, j, none⟩ (.bool x)) b (fun i => if i = j then x else f i) := by
  refine ⟨by simpa using h.lt, fun i hi => ?_, fun i => by rw [World.frozen?_setCell]; exact h.free i⟩
  by_cases e : i = j
  · subst e
    rw [if_pos rfl]
    exact World.cell?_setCell_same wr _ _ (h.cell i hi)
  · rw [if_neg e]
    exact (World.cell?_setCell_other wr _ _ _ (by intro h; injection h with h1 h2 h3; exact e h2.symm)).trans (h.cell i hi)
theorem Bools.other {wr : World} {b : Nat} {f : Nat → Bool} (h : Bools wr b f) (b' j : Nat) (hb : b' ≠ b) (v : Value) : Bools (wr.setCell ⟨b', j, none⟩ v) b f := by
  refine ⟨by simpa using h.lt, fun i hi => ?_, fun i => by rw [World.frozen?_setCell]; exact h.free i⟩
  exact (World.cell?_setCell_other wr _ _ _ (by intro h; injection h with h1 h2 h3; exact hb h1)).trans (h.cell i hi)
theorem Bools.drew {wr : World} {b : Nat} {f : Nat → Bool} (h : Bools wr b f) : Bools wr.drew b f := ⟨h.lt, h.cell, h.free⟩
theorem Bools.congr {wr : World} {b : Nat} {f g : Nat → Bool} (h : Bools wr b f) (e : ∀ i, i < 32 → f i = g i) : Bools wr b g := ⟨h.lt, fun i hi => by rw [← e i hi]; exact h.cell i hi, h.free⟩
def polyB (j : Nat) : Bool := bitR 0x04c11db7#32 j
structure Rel1 (w : World) (n i : Value) (wr : World) : Prop where
  ex : ∃ (m q : Nat) (f g : Nat → Bool), m ≤ 32 ∧ i = .int .i64 ((m : Int) - 1) ∧ n = .int .u32 (q : Int) ∧ Hid (q = 79764919 / 2 ^ (32 - m)) ∧ q ≤ 79764919 ∧ Bools wr w.heap.size f ∧ Bools wr (w.heap.size + 1) g ∧
    Hid (∀ j, m ≤ j → j < 32 → f j = true ∧ g j = polyB j) ∧ Below w.heap.size w wr
structure Rel2 (w : World) (l : List Int) (n : Nat) (i : Value) (wr : World) : Prop where
  ex : ∃ (k : Nat), k ≤ n ∧ i = .int .i64 (k : Int) ∧ Bools wr w.heap.size (bitR (feed 0xffffffff#32 (l.take k))) ∧ Bools wr (w.heap.size + 1) polyB ∧ Below w.heap.size w wr
def inB (R : BitVec 32) (y m j : Nat) : Bool := bitR R j ^^ (decide (m ≤ j) && decide (j < 8) && y.testBit (7 - j))
structure Rel3 (w : World) (R : BitVec 32) (y : Nat) (c k : Value) (wr : World) : Prop where
  ex : ∃ (m q : Nat), m ≤ 8 ∧ k = .int .i64 ((m : Int) - 1) ∧ c = .int .u8 (q : Int) ∧ Hid (q = y / 2 ^ (8 - m)) ∧ q ≤ 255 ∧ Bools wr w.heap.size (inB R y m) ∧ Bools wr (w.heap.size + 1) polyB ∧ Below w.heap.size w wr
structure Rel4 (w : World) (R : BitVec 32) (k : Value) (wr : World) : Prop where
  ex : ∃ (t : Nat), t ≤ 8 ∧ k = .int .i64 (t : Int) ∧ Bools wr w.heap.size (bitR (sts t R)) ∧ Bools wr (w.heap.size + 1) polyB ∧ Below w.heap.size w wr
def shB (S : BitVec 32) (t i : Nat) : Bool := if i < t then bitR S (i + 1) ^^ (bitR S 0 && polyB i) else bitR S i
structure Rel5 (w : World) (S : BitVec 32) (j : Value) (wr : World) : Prop where
  ex : ∃ (t : Nat), t ≤ 31 ∧ j = .int .i64 (t : Int) ∧ Bools wr w.heap.size (shB S t) ∧ Bools wr (w.heap.size + 1) polyB ∧ Below w.heap.size w wr
structure Rel6 (w : World) (R : BitVec 32) (n i : Value) (wr : World) : Prop where
  ex : ∃ (t q : Nat), t ≤ 32 ∧ i = .int .i64 (t : Int) ∧ n = .int .u32 (q : Int) ∧ Hid (q = (~~~R).toNat / 2 ^ (32 - t)) ∧ Bools wr w.heap.size (bitR R) ∧ Below w.heap.size w wr
theorem poly_bit : ∀ k : Fin 32, polyB k.val = (79764919 : Nat).testBit (31 - k.val) := by decide +kernel
theorem half_of {q P m j : Nat} (h : q = P / 2 ^ (m - (j + 1))) (hj : j < m) : Hid (q / 2 = P / 2 ^ (m - j)) := by
  have := next_half h
  rw [show m - (j + 1) + 1 = m - j by omega] at this
  exact this
theorem bit_of {q P m j : Nat} (h : q = P / 2 ^ (m - (j + 1))) : decide (q % 2 = 1) = P.testBit (m - (j + 1)) := by
  rw [Nat.testBit_eq_decide_div_mod_eq, ← h]
theorem bools_new (w : World) (C : Array Value) (hC : C = Array.replicate 32 (.bool false)) : Bools (w.alloc (.cells C 87)) w.heap.size (fun _ => false) := by
  subst hC
  refine ⟨by simp, fun i hi => ?_, fun i => by simp⟩
  rw [World.cell?_alloc_new]
  simp [hi]
theorem bools_new2 (w : World) (o : Obj) (C : Array Value) (hC : C = Array.replicate 32 (.bool false)) : Bools ((w.alloc o).alloc (.cells C 87)) (w.heap.size + 1) (fun _ => false) := by
  have := bools_new (w.alloc o) C hC
  rwa [show (w.alloc o).heap.size = w.heap.size + 1 by simp] at this
theorem Bools.alloc {wr : World} {b : Nat} {f : Nat → Bool} (h : Bools wr b f) (o : Obj) : Bools (wr.alloc o) b f := by
  refine ⟨by have := h.lt; simp; omega, fun i hi => ?_, fun i => ?_⟩
  · exact (World.cell?_alloc_lt wr o _ h.lt).trans (h.cell i hi)
  · exact (World.frozen?_alloc_old wr o _ (by have := h.lt; show b ≠ _; omega)).trans (h.free i)

theorem rel1_next {f g : Nat → Bool} {j q : Nat} {d : Bool} (h : ∀ i, j + 1 ≤ i → i < 32 → f i = true ∧ g i = polyB i) (hq : q = 79764919 / 2 ^ (32 - (j + 1))) (hd : decide (q % 2 = 1) = d) (hj : j < 32) :
    Hid (∀ i, j ≤ i → i < 32 → (if i = j then true else f i) = true ∧ (if i = j then d else g i) = polyB i) := fun i h1 h2 => by
  by_cases e : i = j
  · subst e
    rw [if_pos rfl, if_pos rfl, ← hd, bit_of hq, poly_bit ⟨i, h2⟩]
    exact ⟨rfl, by first | rfl | rw [show 31 - i = 32 - (i + 1) by omega]⟩
  · rw [if_neg e, if_neg e]; exact h i (by omega) h2
theorem ones_bit (i : Nat) (hi : i < 32) : bitR (feed 0xffffffff#32 (([] : List Int).take 0)) i = true := by
  have : ∀ i : Fin 32, bitR 0xffffffff#32 i.val = true := by decide +kernel
  exact this ⟨i, hi⟩
theorem in_zero (R : BitVec 32) (y i : Nat) : inB R y 8 i = bitR R i := by
  unfold inB
  have : (decide (8 ≤ i) && decide (i < 8)) = false := by simp
  rw [this]; simp
theorem in_next (R : BitVec 32) (y j q : Nat) (x d : Bool) (hx : inB R y (j + 1) j = x) (hq : q = y / 2 ^ (8 - (j + 1))) (hd : decide (q % 2 = 1) = d) (hj : j < 8) (i : Nat) (hi : i < 32) :
    (if i = j then (x != d) else inB R y (j + 1) i) = inB R y j i := by
  by_cases e : i = j
  · subst e
    rw [if_pos rfl, ← hx, ← hd, bit_of hq]
    unfold inB
    have a : decide (i + 1 ≤ i) = false := by simp
    have b : decide (i ≤ i) = true := by simp
    have c : decide (i < 8) = true := by simp [hj]
    rw [a, b, c, show 8 - (i + 1) = 7 - i by omega]
    cases bitR R i <;> cases y.testBit (7 - i) <;> rfl
  · rw [if_neg e]
    unfold inB
    have : decide (j + 1 ≤ i) = decide (j ≤ i) := by simp only [decide_eq_decide]; omega
    rw [this]
theorem in_all (R : BitVec 32) (y i : Nat) (hy : y < 256) (hi : i < 32) : inB R y 0 i = bitR (sts 0 (R ^^^ BitVec.ofNat 32 (y * 16777216))) i := by
  show inB R y 0 i = bitR (R ^^^ BitVec.ofNat 32 (y * 16777216)) i
  rw [bitR_byte R y i hy hi]
  unfold inB
  simp
theorem far_cell {b i j : Nat} (h : i ≠ j) : (⟨b, i, none⟩ : Addr) ≠ ⟨b, j, none⟩ := fun e => by injection e with _ h2 _; exact h h2
theorem far_block {b i j : Nat} : (⟨b, i, none⟩ : Addr) ≠ ⟨b + 1, j, none⟩ := fun e => by injection e with h1 _ _; omega
theorem sh_zero (S : BitVec 32) (i : Nat) : shB S 0 i = bitR S i := by unfold shB; rw [if_neg (by omega)]
theorem sh_next (S : BitVec 32) (t i : Nat) (v x z : Bool) (hx : shB S t (t + 1) = x) (hv : v = (x != (bitR S 0 && polyB t))) (ht : t < 31) (hi : i < 32) : (if i = t then v else shB S t i) = shB S (t + 1) i := by
  unfold shB at *
  rw [if_neg (by omega)] at hx
  by_cases e : i = t
  · subst e
    rw [if_pos rfl, if_pos (by omega), hv, ← hx]
  · rw [if_neg e]
    by_cases h : i < t
    · rw [if_pos h, if_pos (by omega)]
    · rw [if_neg h, if_neg (by omega)]
theorem sh_all (S : BitVec 32) (i : Nat) (v : Bool) (hv : v = (bitR S 0 && polyB 31)) (hi : i < 32) : (if i = 31 then v else shB S 31 i) = bitR (st S) i := by
  by_cases e : i = 31
  · subst e
    rw [if_pos rfl, bitR_st31, hv]; rfl
  · rw [if_neg e]
    unfold shB
    rw [if_pos (by omega), bitR_st S i (by omega)]; rfl
theorem comp_zero (R : BitVec 32) : Hid (0 = (~~~R).toNat / 2 ^ (32 - 0)) := by
  have := (~~~R).isLt
  unfold Hid; omega
theorem comp_bd (R : BitVec 32) (t : Nat) (h : t ≤ 32) : (~~~R).toNat / 2 ^ (32 - t) ≤ 4294967295 := by
  have := (~~~R).isLt
  exact Nat.le_trans (Nat.div_le_self _ _) (by omega)
theorem comp_step (R : BitVec 32) (t q : Nat) (x : Bool) (hq : q = (~~~R).toNat / 2 ^ (32 - t)) (hx : bitR R t = x) (ht : t < 32) : Hid (2 * q + (if x then 0 else 1) = (~~~R).toNat / 2 ^ (32 - (t + 1))) ∧ 2 * q + (if x then 0 else 1) ≤ 4294967295 := by
  have h1 := comp_next R t ht
  have h2 := comp_bd R (t + 1) ht
  rw [← hq, hx] at h1
  exact ⟨h1.symm, by rw [← h1]; exact h2⟩
theorem byte_at {l : List Int} (h : Octets l) (k : Nat) (hk : k < l.length) : ∃ y : Nat, l.getD k 0 = (y : Int) ∧ y ≤ 255 := by
  have := bytes_of h k hk
  exact ⟨(l.getD k 0).toNat, by omega, by omega⟩
set_option maxHeartbeats 2000000 in
theorem rsum_walk (A : Option Addr) (n c : Nat) (l : List Int) (w : World) (hlen : l.length = n) (hlt : 0 < n → ∃ b off, A = some ⟨b, off, none⟩ ∧ ∀ i, i < n → w.cell? ⟨b, off + i, none⟩ = some (.int .u8 (l.getD i 0))) (hy : Octets l) (hn : n ≤ 1099511627776) :
    Calls Tryd.prog 32 #[.slice A n c] w fun e w' => e = .returned (.int .u32 (sumV l)) ∧ Below w.heap.size w w' := by
  have HC := Lib.hid hlt
  have HL := Lib.hid hlen
  have HY := Lib.hid hy
  clear hlt hlen hy
  go_enter Tryd.func32, Tryd.ntmps32
  go_wp2_with fail
  go_loopw [5, 6] (fun n i wr => Rel1 w n i wr) (fun _ i _ => (intOf i + 1).toNat)
  case atStart =>
    exact ⟨⟨32, 79764919, _, _, by omega, rfl, rfl, by unfold Hid; rfl, by omega, (bools_new w _ rfl).alloc _, bools_new2 w _ _ rfl, fun j h1 h2 => by omega, ((Below.refl _ _).alloc (Nat.le_refl _) _).alloc (by simp) _⟩⟩
  case round =>
    obtain ⟨⟨m, q, f, g, hm, hi, rfl, hq, hq', hf, hg, hfg, hb⟩⟩ := hrel
    cases m with
    | succ j =>
      rw [show (((j + 1 : Nat) : Int) - 1) = (j : Int) by omega] at hi
      subst hi
      have hj0 : (0 : Int) ≤ (j : Int) := by omega
      have hj1 : (j : Int) < 32 := by omega
      have hjn : (j : Int).toNat = j := by omega
      have c1 := hf.cell j (by omega)
      have c2 := hg.cell j (by omega)
      have z1 := hf.free j
      have z2 := hg.free j
      obtain ⟨d, hd⟩ : ∃ d, Hid (decide (q % 2 = 1) = d) := ⟨_, rfl⟩
      have hd1 : (((q : Int) % 2) == 1) = d := by rw [← hd.out]; rw [Bool.eq_iff_iff]; simp; omega
      have q2 : ((q / 2 : Nat) : Int) = (q : Int) / 2 := by omega
      have HF := Lib.hid hf
      have HG := Lib.hid hg
      have HB := Lib.hid hb
      clear hf hg hb
      go_wp2_with fail
      refine ⟨⟨⟨j, q / 2, _, _, by omega, rfl, by rw [q2], half_of hq.out (by omega), by omega, (HF.out.set j (by omega) _).other _ j (by omega) _, (HG.out.other _ j (by omega) _).set j (by omega) _, rel1_next hfg.out hq.out hd.out (by omega), (HB.out.setCell (Nat.le_refl _) _).setCell (Nat.le_succ _) _⟩⟩, ?_⟩
      simp [intOf]
    | zero =>
      obtain rfl : q = 0 := hq.out
      have hf2 : Bools wr w.heap.size (bitR (feed 0xffffffff#32 (l.take 0))) := hf.congr fun i hi => by rw [(hfg.out i (by omega) hi).1]; exact (ones_bit i hi).symm
      have hg2 : Bools wr (w.heap.size + 1) polyB := hg.congr fun i hi => (hfg.out i (by omega) hi).2
      clear hf hg hfg
      rw [show (((0 : Nat) : Int) - 1) = -1 by rfl] at hi
      subst hi
      rw [show (((0 : Nat) : Int)) = 0 by rfl]
      go_wp2_with fail
      go_loopw [7, 8, 9, 10, 11, 12] (fun i _ _ _ _ _ wr => Rel2 w l n i wr) (fun i _ _ _ _ _ _ => n - (intOf i).toNat)
      case atStart => exact ⟨⟨0, by omega, rfl, hf2, hg2, hb⟩⟩
      case round =>
        clear hf2 hg2 hb
        obtain ⟨⟨k, hk, rfl, hf, hg, hb⟩⟩ := hrel
        by_cases hlt : k < n
        · obtain ⟨y, hy⟩ : ∃ y : Nat, l.getD k 0 = (y : Int) ∧ y ≤ 255 := byte_at HY.out k (by have := HL.out; omega)
          obtain ⟨b, off, rfl, hcs⟩ := HC.out (by omega)
          have hcell := cell_later hb (hcs k hlt)
          clear hcs HC
          rw [hy.1] at hcell
          have HYK := Lib.hid hy
          have HF := Lib.hid hf
          have HG := Lib.hid hg
          have HB := Lib.hid hb
          clear hf hg hb hy
          obtain ⟨R, hR⟩ : ∃ R, Hid (feed 0xffffffff#32 (l.take k) = R) := ⟨_, rfl⟩
          rw [hR.out] at HF
          go_wp2_with fail
          go_loopw [8, 9] (fun c k wr => Rel3 w R y c k wr) (fun _ k _ => (intOf k + 1).toNat)
          case atStart => exact ⟨⟨8, y, by omega, rfl, rfl, by simp [Hid], HYK.out.2, HF.out.congr fun i hi => (in_zero R y i).symm, HG.out, HB.out⟩⟩
          case round =>
            clear HF HG HB hcell
            obtain ⟨⟨m, q, hm, hi, rfl, hq, hq', hf, hg, hb⟩⟩ := hrel
            cases m with
            | succ j =>
              rw [show (((j + 1 : Nat) : Int) - 1) = (j : Int) by omega] at hi
              subst hi
              have hj0 : (0 : Int) ≤ (j : Int) := by omega
              have hj1 : (j : Int) < 32 := by omega
              have hjn : (j : Int).toNat = j := by omega
              obtain ⟨x, hx⟩ : ∃ x, Hid (inB R y (j + 1) j = x) := ⟨_, rfl⟩
              have c1 := hf.cell j (by omega)
              rw [hx.out] at c1
              have z1 := hf.free j
              obtain ⟨d, hd⟩ : ∃ d, Hid (decide (q % 2 = 1) = d) := ⟨_, rfl⟩
              have hd1 : (((q : Int) % 2) == 1) = d := by rw [← hd.out]; rw [Bool.eq_iff_iff]; simp; omega
              have q2 : ((q / 2 : Nat) : Int) = (q : Int) / 2 := by omega
              have q0 : (0 : Int) ≤ (q : Int) := by omega
              have q1 : (q : Int) ≤ 255 := by omega
              have HF := Lib.hid hf
              have HG := Lib.hid hg
              have HB := Lib.hid hb
              clear hf hg hb
              go_wp2_with fail
              refine ⟨⟨⟨j, q / 2, by omega, rfl, by rw [q2], half_of hq.out (by omega), by omega, (HF.out.set j (by omega) _).congr (in_next R y j q x d hx.out hq.out hd.out (by omega)), HG.out.other _ j (by omega) _, HB.out.setCell (Nat.le_refl _) _⟩⟩, ?_⟩
              simp [intOf]
            | zero =>
              have hf2 : Bools wr w.heap.size (bitR (sts 0 (R ^^^ BitVec.ofNat 32 (y * 16777216)))) := hf.congr fun i hi => in_all R y i (by have := HYK.out.2; omega) hi
              have HF := Lib.hid hf2
              have HG := Lib.hid hg
              have HB := Lib.hid hb
              clear hf hg hb hf2
              rw [show (((0 : Nat) : Int) - 1) = -1 by rfl] at hi
              subst hi
              obtain ⟨R2, hR2⟩ : ∃ R2, Hid (R ^^^ BitVec.ofNat 32 (y * 16777216) = R2) := ⟨_, rfl⟩
              rw [hR2.out] at HF
              go_wp2_with fail
              go_loopw [10, 11, 12] (fun k _ _ wr => Rel4 w R2 k wr) (fun k _ _ _ => 8 - (intOf k).toNat)
              case atStart => exact ⟨⟨0, by omega, rfl, HF.out, HG.out, HB.out⟩⟩
              case round =>
                clear HF HG HB
                obtain ⟨⟨t, ht, rfl, hf, hg, hb⟩⟩ := hrel
                by_cases ht8 : t < 8
                · obtain ⟨S, hS⟩ : ∃ S, Hid (sts t R2 = S) := ⟨_, rfl⟩
                  rw [hS.out] at hf
                  obtain ⟨out, hout⟩ : ∃ out, Hid (bitR S 0 = out) := ⟨_, rfl⟩
                  have c1 := hf.cell 0 (by omega)
                  rw [hout.out] at c1
                  have HF := Lib.hid (hf.congr fun i hi => (sh_zero S i).symm)
                  have HG := Lib.hid hg
                  have HB := Lib.hid hb
                  clear hf hg hb
                  go_wp2_with fail
                  have hd8 : decide ((t : Int) < 8) = true := by simp; omega
                  simp only [hd8]
                  clear hd8
                  go_loopw [12] (fun j wr => Rel5 w S j wr) (fun j _ => 31 - (intOf j).toNat)
                  case atStart => exact ⟨⟨0, by omega, rfl, HF.out, HG.out, HB.out⟩⟩
                  case round =>
                    clear HF HG HB c1
                    obtain ⟨⟨t5, ht5, rfl, hf, hg, hb⟩⟩ := hrel
                    by_cases h31 : t5 < 31
                    · obtain ⟨x, hx⟩ : ∃ x, Hid (shB S t5 (t5 + 1) = x) := ⟨_, rfl⟩
                      obtain ⟨z, hz⟩ : ∃ z, Hid (polyB t5 = z) := ⟨_, rfl⟩
                      have c1 := hf.cell (t5 + 1) (by omega)
                      have c2 := hg.cell t5 (by omega)
                      rw [hx.out] at c1
                      rw [hz.out] at c2
                      have z1 := hf.free t5
                      have i0 : (0 : Int) ≤ (t5 : Int) := by omega
                      have i1 : (t5 : Int) < 31 := by omega
                      have i2 : (t5 : Int).toNat = t5 := by omega
                      have i3 : ((t5 : Int) + 1).toNat = t5 + 1 := by omega
                      have i4 : IntKind.i64.wrap ((t5 : Int) + 1) = (t5 : Int) + 1 := IntWalk.i64_in _ (by omega)
                      have i5 : (0 : Int) ≤ (t5 : Int) + 1 := by omega
                      have i6 : (t5 : Int) + 1 < 32 := by omega
                      have i7 : (t5 : Int) < 32 := by omega
                      have s1 := hf.cell t5 (by omega)
                      have HF := Lib.hid hf
                      have HG := Lib.hid hg
                      have HB := Lib.hid hb
                      clear hf hg hb
                      cases out with
                      | true =>
                        go_wp2_with fail
                        refine wp_region_held_drew (S := (fun w' => Below w.heap.size w w' ∧ w'.cell? ⟨w.heap.size, t5 + 1, none⟩ = some (.bool x) ∧ w'.cell? ⟨w.heap.size + 1, t5, none⟩ = some (.bool z))) (by kernel_rfl) ?_ (fun hHeld => ?_)
                        · exact ⟨HB.out.drew, c1, c2⟩
                        refine takeD (i := 0) (d := some 62) (v := ?_) _ rfl rfl (by kernel_rfl) (by kernel_rfl) (by kernel_rfl) (fun _ _ _ h => h) (by rfl) ?_ (by assumption) ?_
                        rotate_left
                        · (intro w hSw; (try dsimp only at hSw); go_simp) <;> with_reducible rfl
                        try simp only [Act.put, List.setIfInBounds_toArray, List.set_cons_zero, List.set_cons_succ]
                        refine takeD (i := 1) (d := some 63) (v := ?_) _ rfl rfl (by kernel_rfl) (by kernel_rfl) (by kernel_rfl) (fun _ _ _ h => h) (by rfl) ?_ (by assumption) ?_
                        rotate_left
                        · (intro w hSw; (try dsimp only at hSw); go_simp) <;> with_reducible rfl
                        try simp only [Act.put, List.setIfInBounds_toArray, List.set_cons_zero, List.set_cons_succ]
                        refine takeD (i := 2) (d := some 64) (v := ?_) _ rfl rfl (by kernel_rfl) (by kernel_rfl) (by kernel_rfl) (fun _ _ _ h => h) (by rfl) ?_ (by assumption) ?_
                        rotate_left
                        · (intro w hSw; (try dsimp only at hSw); go_simp) <;> with_reducible rfl
                        try simp only [Act.put, List.setIfInBounds_toArray, List.set_cons_zero, List.set_cons_succ]
                        refine takeD (i := 3) (d := some 65) (v := ?_) _ rfl rfl (by kernel_rfl) (by kernel_rfl) (by kernel_rfl) (fun _ _ _ h => h) (by rfl) ?_ (by assumption) ?_
                        rotate_left
                        · (intro w hSw; (try dsimp only at hSw); go_simp) <;> with_reducible rfl
                        try simp only [Act.put, List.setIfInBounds_toArray, List.set_cons_zero, List.set_cons_succ]
                        refine takeD (i := 4) (d := some 66) (v := ?_) _ rfl rfl (by kernel_rfl) (by kernel_rfl) (by kernel_rfl) (fun _ _ _ h => h) (by rfl) ?_ (by assumption) ?_
                        rotate_left
                        · (intro w hSw; (try dsimp only at hSw); go_simp) <;> with_reducible rfl
                        try simp only [Act.put, List.setIfInBounds_toArray, List.set_cons_zero, List.set_cons_succ]
                        refine takeD (i := 5) (d := some 67) (v := ?_) _ rfl rfl (by kernel_rfl) (by kernel_rfl) (by kernel_rfl) (fun _ _ _ h => h) (by rfl) ?_ (by assumption) ?_
                        rotate_left
                        · (intro w hSw; (try dsimp only at hSw); go_simp) <;> with_reducible rfl
                        try simp only [Act.put, List.setIfInBounds_toArray, List.set_cons_zero, List.set_cons_succ]
                        refine takeD (i := 6) (d := some 68) (v := ?_) _ rfl rfl (by kernel_rfl) (by kernel_rfl) (by kernel_rfl) (fun _ _ _ h => h) (by rfl) ?_ (by assumption) ?_
                        rotate_left
                        · (intro w hSw; (try dsimp only at hSw); go_simp) <;> with_reducible rfl
                        try simp only [Act.put, List.setIfInBounds_toArray, List.set_cons_zero, List.set_cons_succ]
                        refine takeD (i := 7) (d := some 69) (v := ?_) _ rfl rfl (by kernel_rfl) (by kernel_rfl) (by kernel_rfl) (fun _ _ _ h => h) (by rfl) ?_ (by assumption) ?_
                        rotate_left
                        · (intro w hSw; (try dsimp only at hSw); go_simp) <;> with_reducible rfl
                        try simp only [Act.put, List.setIfInBounds_toArray, List.set_cons_zero, List.set_cons_succ]
                        refine takeD (i := 8) (d := some 70) (v := ?_) _ rfl rfl (by kernel_rfl) (by kernel_rfl) (by kernel_rfl) (fun _ _ _ h => h) (by rfl) ?_ (by assumption) ?_
                        rotate_left
                        · (intro w hSw; (try dsimp only at hSw); go_simp) <;> with_reducible rfl
                        try simp only [Act.put, List.setIfInBounds_toArray, List.set_cons_zero, List.set_cons_succ]
                        refine takeD (i := 9) (d := some 71) (v := ?_) _ rfl rfl (by kernel_rfl) (by kernel_rfl) (by kernel_rfl) (fun _ _ _ h => h) (by rfl) ?_ (by assumption) ?_
                        rotate_left
                        · (intro w hSw; (try dsimp only at hSw); go_simp) <;> with_reducible rfl
                        try simp only [Act.put, List.setIfInBounds_toArray, List.set_cons_zero, List.set_cons_succ]
                        refine takeD (i := 10) (d := some 72) (v := ?_) _ rfl rfl (by kernel_rfl) (by kernel_rfl) (by kernel_rfl) (fun _ _ _ h => h) (by rfl) ?_ (by assumption) ?_
                        rotate_left
                        · (intro w hSw; (try dsimp only at hSw); go_simp) <;> with_reducible rfl
                        try simp only [Act.put, List.setIfInBounds_toArray, List.set_cons_zero, List.set_cons_succ]
                        refine takeD (i := 11) (d := some 73) (v := ?_) _ rfl rfl (by kernel_rfl) (by kernel_rfl) (by kernel_rfl) (fun _ _ _ h => h) (by rfl) ?_ (by assumption) ?_
                        rotate_left
                        · (intro w hSw; (try dsimp only at hSw); go_simp) <;> with_reducible rfl
                        try simp only [Act.put, List.setIfInBounds_toArray, List.set_cons_zero, List.set_cons_succ]
                        refine takeD (i := 12) (d := some 74) (v := ?_) _ rfl rfl (by kernel_rfl) (by kernel_rfl) (by kernel_rfl) (fun _ _ _ h => h) (by rfl) ?_ (by assumption) ?_
                        rotate_left
                        · (intro w hSw; (try dsimp only at hSw); go_simp) <;> with_reducible rfl
                        try simp only [Act.put, List.setIfInBounds_toArray, List.set_cons_zero, List.set_cons_succ]
                        refine wpAnyH_ready (rs := [13]) (by kernel_rfl) (by simp) ?_
                        refine AllReadyH.cons rfl (fun K hK => ?_) AllReadyH.nil
                        go_simp
                        refine hK.out _ _ ?_ (fun hHeld => ?_)
                        · exact ⟨(HB.out.setCell (Nat.le_refl _) _).drew, (World.cell?_setCell_other wr _ _ _ (far_cell (by omega))).trans c1, (World.cell?_setCell_other wr _ _ _ (far_block)).trans c2⟩
                        clear hK K
                        try simp only [Act.put, List.setIfInBounds_toArray, List.set_cons_zero, List.set_cons_succ]
                        refine wpAnyH_done (by kernel_rfl) ?_ _
                        go_wp2_with fail
                        go_roundw
                        case rel => first | exact ⟨⟨t5 + 1, by omega, by go_num, ((HF.out.set t5 (by omega) _).congr (sh_next S t5 · _ x z hx.out (by rw [hout.out, hz.out]; first | rfl | simp) h31)).drew, (HG.out.other _ t5 (by omega) _).drew, (HB.out.setCell (Nat.le_refl _) _).drew⟩⟩ | ((repeat apply Exists.intro); exact ⟨⟨⟨t5 + 1, by omega, by go_num, ((HF.out.set t5 (by omega) _).congr (sh_next S t5 · _ x z hx.out (by rw [hout.out, hz.out]; first | rfl | simp) h31)).drew, (HG.out.other _ t5 (by omega) _).drew, (HB.out.setCell (Nat.le_refl _) _).drew⟩⟩, rfl⟩)
                        case measure => simp [intOf]; omega
                      | false =>
                        go_wp2_with fail
                        refine wp_region_held_drew (S := (fun w' => Below w.heap.size w w' ∧ w'.cell? ⟨w.heap.size, t5 + 1, none⟩ = some (.bool x) ∧ w'.cell? ⟨w.heap.size + 1, t5, none⟩ = some (.bool z))) (by kernel_rfl) ?_ (fun hHeld => ?_)
                        · exact ⟨HB.out.drew, c1, c2⟩
                        refine takeD (i := 0) (d := some 62) (v := ?_) _ rfl rfl (by kernel_rfl) (by kernel_rfl) (by kernel_rfl) (fun _ _ _ h => h) (by rfl) ?_ (by assumption) ?_
                        rotate_left
                        · (intro w hSw; (try dsimp only at hSw); go_simp) <;> with_reducible rfl
                        try simp only [Act.put, List.setIfInBounds_toArray, List.set_cons_zero, List.set_cons_succ]
                        refine takeD (i := 1) (d := some 63) (v := ?_) _ rfl rfl (by kernel_rfl) (by kernel_rfl) (by kernel_rfl) (fun _ _ _ h => h) (by rfl) ?_ (by assumption) ?_
                        rotate_left
                        · (intro w hSw; (try dsimp only at hSw); go_simp) <;> with_reducible rfl
                        try simp only [Act.put, List.setIfInBounds_toArray, List.set_cons_zero, List.set_cons_succ]
                        refine takeD (i := 2) (d := some 64) (v := ?_) _ rfl rfl (by kernel_rfl) (by kernel_rfl) (by kernel_rfl) (fun _ _ _ h => h) (by rfl) ?_ (by assumption) ?_
                        rotate_left
                        · (intro w hSw; (try dsimp only at hSw); go_simp) <;> with_reducible rfl
                        try simp only [Act.put, List.setIfInBounds_toArray, List.set_cons_zero, List.set_cons_succ]
                        refine takeD (i := 3) (d := some 65) (v := ?_) _ rfl rfl (by kernel_rfl) (by kernel_rfl) (by kernel_rfl) (fun _ _ _ h => h) (by rfl) ?_ (by assumption) ?_
                        rotate_left
                        · (intro w hSw; (try dsimp only at hSw); go_simp) <;> with_reducible rfl
                        try simp only [Act.put, List.setIfInBounds_toArray, List.set_cons_zero, List.set_cons_succ]
                        refine takeD (i := 4) (d := some 66) (v := ?_) _ rfl rfl (by kernel_rfl) (by kernel_rfl) (by kernel_rfl) (fun _ _ _ h => h) (by rfl) ?_ (by assumption) ?_
                        rotate_left
                        · (intro w hSw; (try dsimp only at hSw); go_simp) <;> with_reducible rfl
                        try simp only [Act.put, List.setIfInBounds_toArray, List.set_cons_zero, List.set_cons_succ]
                        refine takeD (i := 5) (d := some 67) (v := ?_) _ rfl rfl (by kernel_rfl) (by kernel_rfl) (by kernel_rfl) (fun _ _ _ h => h) (by rfl) ?_ (by assumption) ?_
                        rotate_left
                        · (intro w hSw; (try dsimp only at hSw); go_simp) <;> with_reducible rfl
                        try simp only [Act.put, List.setIfInBounds_toArray, List.set_cons_zero, List.set_cons_succ]
                        refine takeD (i := 6) (d := some 68) (v := ?_) _ rfl rfl (by kernel_rfl) (by kernel_rfl) (by kernel_rfl) (fun _ _ _ h => h) (by rfl) ?_ (by assumption) ?_
                        rotate_left
                        · (intro w hSw; (try dsimp only at hSw); go_simp) <;> with_reducible rfl
                        try simp only [Act.put, List.setIfInBounds_toArray, List.set_cons_zero, List.set_cons_succ]
                        refine skipD (i := 7) (d := some 69) _ rfl rfl (by kernel_rfl) (by kernel_rfl) (by kernel_rfl) (fun _ _ _ h => h) (by rfl) (by assumption) ?_
                        try simp only [Act.put, List.setIfInBounds_toArray, List.set_cons_zero, List.set_cons_succ]
                        refine skipD (i := 8) (d := some 70) _ rfl rfl (by kernel_rfl) (by kernel_rfl) (by kernel_rfl) (fun _ _ _ h => h) (by rfl) (by assumption) ?_
                        try simp only [Act.put, List.setIfInBounds_toArray, List.set_cons_zero, List.set_cons_succ]
                        refine skipD (i := 9) (d := some 71) _ rfl rfl (by kernel_rfl) (by kernel_rfl) (by kernel_rfl) (fun _ _ _ h => h) (by rfl) (by assumption) ?_
                        try simp only [Act.put, List.setIfInBounds_toArray, List.set_cons_zero, List.set_cons_succ]
                        refine takeD (i := 10) (d := some 72) (v := ?_) _ rfl rfl (by kernel_rfl) (by kernel_rfl) (by kernel_rfl) (fun _ _ _ h => h) (by rfl) ?_ (by assumption) ?_
                        rotate_left
                        · (intro w hSw; (try dsimp only at hSw); go_simp) <;> with_reducible rfl
                        try simp only [Act.put, List.setIfInBounds_toArray, List.set_cons_zero, List.set_cons_succ]
                        refine takeD (i := 11) (d := some 73) (v := ?_) _ rfl rfl (by kernel_rfl) (by kernel_rfl) (by kernel_rfl) (fun _ _ _ h => h) (by rfl) ?_ (by assumption) ?_
                        rotate_left
                        · (intro w hSw; (try dsimp only at hSw); go_simp) <;> with_reducible rfl
                        try simp only [Act.put, List.setIfInBounds_toArray, List.set_cons_zero, List.set_cons_succ]
                        refine takeD (i := 12) (d := some 74) (v := ?_) _ rfl rfl (by kernel_rfl) (by kernel_rfl) (by kernel_rfl) (fun _ _ _ h => h) (by rfl) ?_ (by assumption) ?_
                        rotate_left
                        · (intro w hSw; (try dsimp only at hSw); go_simp) <;> with_reducible rfl
                        try simp only [Act.put, List.setIfInBounds_toArray, List.set_cons_zero, List.set_cons_succ]
                        refine wpAnyH_ready (rs := [13]) (by kernel_rfl) (by simp) ?_
                        refine AllReadyH.cons rfl (fun K hK => ?_) AllReadyH.nil
                        go_simp
                        refine hK.out _ _ ?_ (fun hHeld => ?_)
                        · exact ⟨(HB.out.setCell (Nat.le_refl _) _).drew, (World.cell?_setCell_other wr _ _ _ (far_cell (by omega))).trans c1, (World.cell?_setCell_other wr _ _ _ (far_block)).trans c2⟩
                        clear hK K
                        try simp only [Act.put, List.setIfInBounds_toArray, List.set_cons_zero, List.set_cons_succ]
                        refine wpAnyH_done (by kernel_rfl) ?_ _
                        go_wp2_with fail
                        go_roundw
                        case rel => first | exact ⟨⟨t5 + 1, by omega, by go_num, ((HF.out.set t5 (by omega) _).congr (sh_next S t5 · _ x z hx.out (by rw [hout.out, hz.out]; first | rfl | simp) h31)).drew, (HG.out.other _ t5 (by omega) _).drew, (HB.out.setCell (Nat.le_refl _) _).drew⟩⟩ | ((repeat apply Exists.intro); exact ⟨⟨⟨t5 + 1, by omega, by go_num, ((HF.out.set t5 (by omega) _).congr (sh_next S t5 · _ x z hx.out (by rw [hout.out, hz.out]; first | rfl | simp) h31)).drew, (HG.out.other _ t5 (by omega) _).drew, (HB.out.setCell (Nat.le_refl _) _).drew⟩⟩, rfl⟩)
                        case measure => simp [intOf]; omega
                    · obtain rfl : t5 = 31 := by omega
                      obtain ⟨z, hz⟩ : ∃ z, Hid (polyB 31 = z) := ⟨_, rfl⟩
                      have c1 := hf.cell 31 (by omega)
                      have c2 := hg.cell 31 (by omega)
                      rw [hz.out] at c2
                      have z1 := hf.free 31
                      have HF := Lib.hid hf
                      have HG := Lib.hid hg
                      have HB := Lib.hid hb
                      have hN := Lib.hid (sts_next t R2)
                      clear hf hg hb
                      cases out with
                      | true =>
                        go_wp2_with fail
                        go_roundw
                        case rel => first | exact ⟨⟨t + 1, by omega, by go_num, by rw [hN.out, hS.out]; exact (HF.out.set 31 (by omega) _).congr (fun i hi => sh_all S i _ (by rw [hout.out, hz.out]; first | rfl | simp) hi), HG.out.other _ 31 (by omega) _, HB.out.setCell (Nat.le_refl _) _⟩⟩ | ((repeat apply Exists.intro); exact ⟨⟨⟨t + 1, by omega, by go_num, by rw [hN.out, hS.out]; exact (HF.out.set 31 (by omega) _).congr (fun i hi => sh_all S i _ (by rw [hout.out, hz.out]; first | rfl | simp) hi), HG.out.other _ 31 (by omega) _, HB.out.setCell (Nat.le_refl _) _⟩⟩, rfl⟩)
                        case measure => simp [intOf]; omega
                      | false =>
                        go_wp2_with fail
                        go_roundw
                        case rel => first | exact ⟨⟨t + 1, by omega, by go_num, by rw [hN.out, hS.out]; exact (HF.out.set 31 (by omega) _).congr (fun i hi => sh_all S i _ (by rw [hout.out, hz.out]; first | rfl | simp) hi), HG.out.other _ 31 (by omega) _, HB.out.setCell (Nat.le_refl _) _⟩⟩ | ((repeat apply Exists.intro); exact ⟨⟨⟨t + 1, by omega, by go_num, by rw [hN.out, hS.out]; exact (HF.out.set 31 (by omega) _).congr (fun i hi => sh_all S i _ (by rw [hout.out, hz.out]; first | rfl | simp) hi), HG.out.other _ 31 (by omega) _, HB.out.setCell (Nat.le_refl _) _⟩⟩, rfl⟩)
                        case measure => simp [intOf]; omega
                · obtain rfl : t = 8 := by omega
                  have hN : Hid (sts 8 R2 = feed 0xffffffff#32 (l.take (k + 1))) := by
                    have := feed_next 0xffffffff#32 l k (by have := HL.out; omega)
                    rw [this, hR.out, HYK.out.1, ← hR2.out]; unfold feedB Hid; rw [Int.toNat_natCast]
                  rw [hN.out] at hf
                  have HF := Lib.hid hf
                  have HG := Lib.hid hg
                  have HB := Lib.hid hb
                  clear hf hg hb
                  go_wp2_with fail
                  go_roundw
                  case rel => first | exact ⟨⟨k + 1, by omega, by go_num, HF.out, HG.out, HB.out⟩⟩ | ((repeat apply Exists.intro); exact ⟨⟨⟨k + 1, by omega, by go_num, HF.out, HG.out, HB.out⟩⟩, rfl⟩)
                  case measure => simp [intOf]; omega
        · obtain rfl : k = n := by omega
          obtain ⟨R, hR⟩ : ∃ R, Hid (feed 0xffffffff#32 l = R) := ⟨_, rfl⟩
          rw [List.take_of_length_le (by have := HL.out; omega), hR.out] at hf
          have hsum := Lib.hid (comp_sum l HY.out)
          rw [hR.out] at hsum
          have HF := Lib.hid hf
          have HB := Lib.hid hb
          clear hf hg hb
          go_wp2_with fail
          go_loopw [5, 13] (fun n i wr => Rel6 w R n i wr) (fun _ i _ => 32 - (intOf i).toNat)
          case atStart => exact ⟨⟨0, 0, by omega, rfl, rfl, comp_zero R, HF.out, HB.out⟩⟩
          case round =>
            clear HF HB
            obtain ⟨⟨t, q, ht, rfl, rfl, hq, hf, hb⟩⟩ := hrel
            by_cases ht32 : t < 32
            · obtain ⟨x, hx⟩ : ∃ x, Hid (bitR R t = x) := ⟨_, rfl⟩
              have c1 := hf.cell t (by omega)
              rw [hx.out] at c1
              obtain ⟨HQ, qb⟩ := comp_step R t q x hq.out hx.out ht32
              have i0 : (0 : Int) ≤ (t : Int) := by omega
              have i1 : (t : Int) < 32 := by omega
              have i2 : (t : Int).toNat = t := by omega
              have HF := Lib.hid hf
              have HB := Lib.hid hb
              cases x with
              | true =>
                have w2 : IntKind.u32.wrap (2 * (q : Int)) = 2 * (q : Int) := wrap32 _ (by omega) (by simp only [Bool.false_eq_true, if_false, if_true] at qb; omega)
                clear qb hf hb
                go_wp2_with fail
                go_roundw
                case rel => exact ⟨⟨t + 1, 2 * q, by omega, by go_num, by go_num, HQ, HF.out, HB.out⟩⟩
                case measure => clear w2; simp only [intOf]; omega
              | false =>
                have w2 : IntKind.u32.wrap (2 * (q : Int)) = 2 * (q : Int) := wrap32 _ (by omega) (by simp only [Bool.false_eq_true, if_false, if_true] at qb; omega)
                have w3 : 2 * (q : Int) + 1 ≤ 4294967295 := by simp only [Bool.false_eq_true, if_false, if_true] at qb; omega
                clear qb hf hb
                go_wp2_with fail
                go_roundw
                case rel => exact ⟨⟨t + 1, 2 * q + 1, by omega, by go_num, by go_num, HQ, HF.out, HB.out⟩⟩
                case measure => clear w2 w3; simp only [intOf]; omega
            · obtain rfl : t = 32 := by omega
              have hq2 : (q : Int) = sumV l := by
                rw [← hsum.out, hq.out]; simp
              have HB := Lib.hid hb
              have HQ := Lib.hid hq2
              clear hq2 hf hb
              go_wp2_with fail
              go_ret
              exact ⟨int_ret HQ.out, HB.out⟩
theorem rsum_any (A : Option Addr) (n c : Nat) (l : List Int) (w : World) (B : Nat) (h : Reads w B 1 A n (U l)) (hy : Bytes l) (hn : n ≤ 1099511627776) :
    Calls Tryd.prog 32 #[.slice A n c] w fun e w' => e = .returned (.int .u32 (sumV l)) ∧ Below w.heap.size w w' :=
  rsum_walk A n c l w (by have := h.1; simpa using this) (fun h0 => by
    obtain ⟨b, off, hA, _, _, hc⟩ := place_of h h0
    exact ⟨b, off, hA, hc⟩) (octets_of hy) hn
end Go.Proofs.YthcegmijphbhgaaDoor
