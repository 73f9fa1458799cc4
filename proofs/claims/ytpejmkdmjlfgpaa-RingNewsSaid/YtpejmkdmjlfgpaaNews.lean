/-
  RingNews' walk: whether there may be a ring; of one that is not there nothing is told.
-/
import Derived.Test.YtpejmkdmjlfgpaaTold
namespace Go.Proofs.Ytpejmkdmjlfgpaa
open Go.RowKit
set_option linter.unusedSimpArgs false
set_option linter.unusedVariables false
theorem len_nil (w : World) : Calls Try.prog 14 #[.pointer none] w fun e w' => e = .returned (.int .i64 0) ∧ Below w.heap.size w w' := by
  go_enter Try.func14, Try.ntmps14
  go_wp2_with fail
  go_ret
  exact ⟨rfl, Below.refl _ _⟩
theorem room_nil (w : World) : Calls Try.prog 15 #[.pointer none] w fun e w' => e = .returned (.int .i64 0) ∧ Below w.heap.size w w' := by
  go_enter Try.func15, Try.ntmps15
  go_wp2_with fail
  go_ret
  exact ⟨rfl, Below.refl _ _⟩
theorem words_nil (w : World) : Calls Try.prog 16 #[.pointer none] w fun e w' => e = .returned (.int .i64 0) ∧ Below w.heap.size w w' := by
  go_enter Try.func16, Try.ntmps16
  go_wp2_with fail
  go_ret
  exact ⟨rfl, Below.refl _ _⟩
theorem peek_nil (w : World) : Calls Try.prog 20 #[.pointer none] w fun e w' => e = .returned (.tuple #[.slice none 0 0, .bool false]) ∧ Below w.heap.size w w' := by
  go_enter Try.func20, Try.ntmps20
  go_wp2_with fail
  refine (len_nil w).mono ?_
  rintro e w1 ⟨rfl, hb⟩
  go_wp2_with fail
  go_ret2
  exact ⟨rfl, hb⟩
theorem take_nil (w : World) : Calls Try.prog 19 #[.pointer none] w fun e w' => e = .returned (.tuple #[.slice none 0 0, .bool false]) ∧ Below w.heap.size w w' := by
  go_enter Try.func19, Try.ntmps19
  go_wp2_with fail
  refine (peek_nil w).mono ?_
  rintro e w1 ⟨rfl, hb⟩
  go_wp2_with fail
  go_ret2
  exact ⟨rfl, hb⟩
theorem cloneR_nil (w : World) : Calls Try.prog 22 #[.pointer none] w fun e w' => e = .returned (.pointer none) ∧ Below w.heap.size w w' := by
  go_enter Try.func22, Try.ntmps22
  go_wp2_with fail
  go_ret
  exact ⟨rfl, Below.refl _ _⟩
theorem sameR_nil (w : World) : Calls Try.prog 23 #[.pointer none, .pointer none] w fun e w' => e = .returned (.bool true) ∧ Below w.heap.size w w' := by
  go_enter Try.func23, Try.ntmps23
  go_wp2_with fail
  go_ret
  exact ⟨rfl, Below.refl _ _⟩
theorem sameR_nil' (w : World) (a : Addr) : Calls Try.prog 23 #[.pointer none, .pointer (some a)] w fun e w' => e = .returned (.bool false) ∧ Below w.heap.size w w' := by
  have he : ∀ w : World, (binOp .eql 23 (.pointer none) (.pointer (some a))).run Try.prog w = .ok (.bool false) w := fun _ => rfl
  go_enter Try.func23, Try.ntmps23
  go_wp2_with fail
  go_ret
  exact ⟨rfl, Below.refl _ _⟩
theorem clear_nil (w : World) : Calls Try.prog 18 #[.pointer none] w fun e w' => e = .returned (.tuple #[]) ∧ Below w.heap.size w w' := by
  go_enter Try.func18, Try.ntmps18
  go_wp2_with fail
  go_end0
  exact ⟨rfl, Below.refl _ _⟩
theorem all_nil (w : World) : Calls Try.prog 13 #[.pointer none] w fun e w' => e = .returned (.slice none 0 0) ∧ Below w.heap.size w w' := by
  go_enter Try.func13, Try.ntmps13
  go_wp2_with fail
  refine (len_nil w).mono ?_
  rintro e w1 ⟨rfl, hb⟩
  go_wp2_with fail
  go_loop [3, 7] (fun l i => l = .slice none 0 0 ∧ i = .int .i64 0) (fun _ _ => 0)
  case atStart => exact ⟨rfl, rfl⟩
  case round =>
    obtain ⟨rfl, rfl⟩ := hrel
    go_wp2_with fail
    go_ret
    exact ⟨rfl, hb⟩
set_option maxHeartbeats 4000000 in
theorem news_ok (n m : Nat) (w : World) (h1 : 1 ≤ n ∧ n ≤ 32) (h2 : 1 ≤ m ∧ m ≤ 32) :
    Calls Try.prog 4 #[.int .i64 (n : Int), .int .i64 (m : Int)] w fun e w' => e = .returned (.bool true) ∧ Below w.heap.size w w' := by
  have NEW := Lib.hid (new_ok n m w h1 h2)
  have a1 : 1 ≤ (n : Int) := by omega
  have a2 : (n : Int) ≤ 32 := by omega
  have a3 : 1 ≤ (m : Int) := by omega
  have a4 : (m : Int) ≤ 32 := by omega
  clear h1 h2
  go_enter Try.func4, Try.ntmps4
  go_wp2_with fail
  refine NEW.out.mono ?_
  rintro e w1 ⟨rfl, R1, b1⟩
  clear R1 NEW
  go_wp2_with fail
  refine (clear_nil w1).mono ?_
  rintro e w2 ⟨rfl, hb⟩
  have b2 := b1.trans (hb.mono b1.size)
  clear hb
  go_wp2_with fail
  refine (take_nil w2).mono ?_
  rintro e w3 ⟨rfl, hb⟩
  have b3 := b2.trans (hb.mono b2.size)
  clear hb
  go_wp2_with fail
  refine (peek_nil w3).mono ?_
  rintro e w4 ⟨rfl, hb⟩
  have b4 := b3.trans (hb.mono b3.size)
  clear hb
  go_wp2_with fail
  refine (told_any w4).mono ?_
  rintro e w5 ⟨rfl, hb⟩
  have b5 := b4.trans (hb.mono b4.size)
  clear hb
  go_wp2_with fail
  refine (put_nil none 0 0 w5).mono ?_
  rintro e w6 ⟨rfl, hb⟩
  have b6 := b5.trans (hb.mono b5.size)
  clear hb
  go_wp2_with fail
  refine (len_nil w6).mono ?_
  rintro e w7 ⟨rfl, hb⟩
  have b7 := b6.trans (hb.mono b6.size)
  clear hb
  go_wp2_with fail
  refine (room_nil w7).mono ?_
  rintro e w8 ⟨rfl, hb⟩
  have b8 := b7.trans (hb.mono b7.size)
  clear hb
  go_wp2_with fail
  refine (words_nil w8).mono ?_
  rintro e w9 ⟨rfl, hb⟩
  have b9 := b8.trans (hb.mono b8.size)
  clear hb
  go_wp2_with fail
  refine (all_nil w9).mono ?_
  rintro e w10 ⟨rfl, hb⟩
  have b10 := b9.trans (hb.mono b9.size)
  clear hb
  go_wp2_with fail
  refine (cloneR_nil w10).mono ?_
  rintro e w11 ⟨rfl, hb⟩
  have b11 := b10.trans (hb.mono b10.size)
  clear hb
  go_wp2_with fail
  refine (sameR_nil w11).mono ?_
  rintro e w12 ⟨rfl, hb⟩
  have b12 := b11.trans (hb.mono b11.size)
  clear hb
  go_wp2_with fail
  refine (sameR_nil' w12 _).mono ?_
  rintro e w13 ⟨rfl, hb⟩
  have b13 := b12.trans (hb.mono b12.size)
  clear hb
  go_wp2_with fail
  go_ret
  exact ⟨rfl, b13⟩
set_option maxHeartbeats 8000000 in
theorem news_bad (n m : Int) (w : World) (h : ¬ (1 ≤ n ∧ n ≤ 32 ∧ 1 ≤ m ∧ m ≤ 32)) :
    Calls Try.prog 4 #[.int .i64 n, .int .i64 m] w fun e w' => e = .returned (.bool true) ∧ Below w.heap.size w w' := by
  have NEW := Lib.hid (new_bad n m w h)
  by_cases q1 : 1 ≤ n
  · by_cases q2 : n ≤ 32
    · by_cases q3 : 1 ≤ m
      · have q4 : ¬ m ≤ 32 := fun q4 => h ⟨q1, q2, q3, q4⟩
        have d4 : decide (m ≤ 32) = false := by simpa using q4
        clear h
        go_enter Try.func4, Try.ntmps4
        go_wp2_with fail
        refine NEW.out.mono ?_
        rintro e w1 ⟨rfl, b1⟩
        clear NEW
        go_wp2_with fail
        refine (clear_nil w1).mono ?_
        rintro e w2 ⟨rfl, hb⟩
        have b2 := b1.trans (hb.mono b1.size)
        clear hb
        go_wp2_with fail
        refine (take_nil w2).mono ?_
        rintro e w3 ⟨rfl, hb⟩
        have b3 := b2.trans (hb.mono b2.size)
        clear hb
        go_wp2_with fail
        refine (peek_nil w3).mono ?_
        rintro e w4 ⟨rfl, hb⟩
        have b4 := b3.trans (hb.mono b3.size)
        clear hb
        go_wp2_with fail
        refine (told_any w4).mono ?_
        rintro e w5 ⟨rfl, hb⟩
        have b5 := b4.trans (hb.mono b4.size)
        clear hb
        go_wp2_with fail
        refine (put_nil none 0 0 w5).mono ?_
        rintro e w6 ⟨rfl, hb⟩
        have b6 := b5.trans (hb.mono b5.size)
        clear hb
        go_wp2_with fail
        refine (len_nil w6).mono ?_
        rintro e w7 ⟨rfl, hb⟩
        have b7 := b6.trans (hb.mono b6.size)
        clear hb
        go_wp2_with fail
        refine (room_nil w7).mono ?_
        rintro e w8 ⟨rfl, hb⟩
        have b8 := b7.trans (hb.mono b7.size)
        clear hb
        go_wp2_with fail
        refine (words_nil w8).mono ?_
        rintro e w9 ⟨rfl, hb⟩
        have b9 := b8.trans (hb.mono b8.size)
        clear hb
        go_wp2_with fail
        refine (all_nil w9).mono ?_
        rintro e w10 ⟨rfl, hb⟩
        have b10 := b9.trans (hb.mono b9.size)
        clear hb
        go_wp2_with fail
        refine (cloneR_nil w10).mono ?_
        rintro e w11 ⟨rfl, hb⟩
        have b11 := b10.trans (hb.mono b10.size)
        clear hb
        go_wp2_with fail
        refine (sameR_nil w11).mono ?_
        rintro e w12 ⟨rfl, hb⟩
        have b12 := b11.trans (hb.mono b11.size)
        clear hb
        go_wp2_with fail
        refine (sameR_nil w12).mono ?_
        rintro e w13 ⟨rfl, hb⟩
        have b13 := b12.trans (hb.mono b12.size)
        clear hb
        go_wp2_with fail
        go_ret
        exact ⟨rfl, b13⟩
      · have d3 : decide (1 ≤ m) = false := by simpa using q3
        clear h
        go_enter Try.func4, Try.ntmps4
        go_wp2_with fail
        refine NEW.out.mono ?_
        rintro e w1 ⟨rfl, b1⟩
        clear NEW
        go_wp2_with fail
        refine (clear_nil w1).mono ?_
        rintro e w2 ⟨rfl, hb⟩
        have b2 := b1.trans (hb.mono b1.size)
        clear hb
        go_wp2_with fail
        refine (take_nil w2).mono ?_
        rintro e w3 ⟨rfl, hb⟩
        have b3 := b2.trans (hb.mono b2.size)
        clear hb
        go_wp2_with fail
        refine (peek_nil w3).mono ?_
        rintro e w4 ⟨rfl, hb⟩
        have b4 := b3.trans (hb.mono b3.size)
        clear hb
        go_wp2_with fail
        refine (told_any w4).mono ?_
        rintro e w5 ⟨rfl, hb⟩
        have b5 := b4.trans (hb.mono b4.size)
        clear hb
        go_wp2_with fail
        refine (put_nil none 0 0 w5).mono ?_
        rintro e w6 ⟨rfl, hb⟩
        have b6 := b5.trans (hb.mono b5.size)
        clear hb
        go_wp2_with fail
        refine (len_nil w6).mono ?_
        rintro e w7 ⟨rfl, hb⟩
        have b7 := b6.trans (hb.mono b6.size)
        clear hb
        go_wp2_with fail
        refine (room_nil w7).mono ?_
        rintro e w8 ⟨rfl, hb⟩
        have b8 := b7.trans (hb.mono b7.size)
        clear hb
        go_wp2_with fail
        refine (words_nil w8).mono ?_
        rintro e w9 ⟨rfl, hb⟩
        have b9 := b8.trans (hb.mono b8.size)
        clear hb
        go_wp2_with fail
        refine (all_nil w9).mono ?_
        rintro e w10 ⟨rfl, hb⟩
        have b10 := b9.trans (hb.mono b9.size)
        clear hb
        go_wp2_with fail
        refine (cloneR_nil w10).mono ?_
        rintro e w11 ⟨rfl, hb⟩
        have b11 := b10.trans (hb.mono b10.size)
        clear hb
        go_wp2_with fail
        refine (sameR_nil w11).mono ?_
        rintro e w12 ⟨rfl, hb⟩
        have b12 := b11.trans (hb.mono b11.size)
        clear hb
        go_wp2_with fail
        refine (sameR_nil w12).mono ?_
        rintro e w13 ⟨rfl, hb⟩
        have b13 := b12.trans (hb.mono b12.size)
        clear hb
        go_wp2_with fail
        go_ret
        exact ⟨rfl, b13⟩
    · have d2 : decide (n ≤ 32) = false := by simpa using q2
      clear h
      go_enter Try.func4, Try.ntmps4
      go_wp2_with fail
      refine NEW.out.mono ?_
      rintro e w1 ⟨rfl, b1⟩
      clear NEW
      go_wp2_with fail
      refine (clear_nil w1).mono ?_
      rintro e w2 ⟨rfl, hb⟩
      have b2 := b1.trans (hb.mono b1.size)
      clear hb
      go_wp2_with fail
      refine (take_nil w2).mono ?_
      rintro e w3 ⟨rfl, hb⟩
      have b3 := b2.trans (hb.mono b2.size)
      clear hb
      go_wp2_with fail
      refine (peek_nil w3).mono ?_
      rintro e w4 ⟨rfl, hb⟩
      have b4 := b3.trans (hb.mono b3.size)
      clear hb
      go_wp2_with fail
      refine (told_any w4).mono ?_
      rintro e w5 ⟨rfl, hb⟩
      have b5 := b4.trans (hb.mono b4.size)
      clear hb
      go_wp2_with fail
      refine (put_nil none 0 0 w5).mono ?_
      rintro e w6 ⟨rfl, hb⟩
      have b6 := b5.trans (hb.mono b5.size)
      clear hb
      go_wp2_with fail
      refine (len_nil w6).mono ?_
      rintro e w7 ⟨rfl, hb⟩
      have b7 := b6.trans (hb.mono b6.size)
      clear hb
      go_wp2_with fail
      refine (room_nil w7).mono ?_
      rintro e w8 ⟨rfl, hb⟩
      have b8 := b7.trans (hb.mono b7.size)
      clear hb
      go_wp2_with fail
      refine (words_nil w8).mono ?_
      rintro e w9 ⟨rfl, hb⟩
      have b9 := b8.trans (hb.mono b8.size)
      clear hb
      go_wp2_with fail
      refine (all_nil w9).mono ?_
      rintro e w10 ⟨rfl, hb⟩
      have b10 := b9.trans (hb.mono b9.size)
      clear hb
      go_wp2_with fail
      refine (cloneR_nil w10).mono ?_
      rintro e w11 ⟨rfl, hb⟩
      have b11 := b10.trans (hb.mono b10.size)
      clear hb
      go_wp2_with fail
      refine (sameR_nil w11).mono ?_
      rintro e w12 ⟨rfl, hb⟩
      have b12 := b11.trans (hb.mono b11.size)
      clear hb
      go_wp2_with fail
      refine (sameR_nil w12).mono ?_
      rintro e w13 ⟨rfl, hb⟩
      have b13 := b12.trans (hb.mono b12.size)
      clear hb
      go_wp2_with fail
      go_ret
      exact ⟨rfl, b13⟩
  · have d1 : decide (1 ≤ n) = false := by simpa using q1
    clear h
    go_enter Try.func4, Try.ntmps4
    go_wp2_with fail
    refine NEW.out.mono ?_
    rintro e w1 ⟨rfl, b1⟩
    clear NEW
    go_wp2_with fail
    refine (clear_nil w1).mono ?_
    rintro e w2 ⟨rfl, hb⟩
    have b2 := b1.trans (hb.mono b1.size)
    clear hb
    go_wp2_with fail
    refine (take_nil w2).mono ?_
    rintro e w3 ⟨rfl, hb⟩
    have b3 := b2.trans (hb.mono b2.size)
    clear hb
    go_wp2_with fail
    refine (peek_nil w3).mono ?_
    rintro e w4 ⟨rfl, hb⟩
    have b4 := b3.trans (hb.mono b3.size)
    clear hb
    go_wp2_with fail
    refine (told_any w4).mono ?_
    rintro e w5 ⟨rfl, hb⟩
    have b5 := b4.trans (hb.mono b4.size)
    clear hb
    go_wp2_with fail
    refine (put_nil none 0 0 w5).mono ?_
    rintro e w6 ⟨rfl, hb⟩
    have b6 := b5.trans (hb.mono b5.size)
    clear hb
    go_wp2_with fail
    refine (len_nil w6).mono ?_
    rintro e w7 ⟨rfl, hb⟩
    have b7 := b6.trans (hb.mono b6.size)
    clear hb
    go_wp2_with fail
    refine (room_nil w7).mono ?_
    rintro e w8 ⟨rfl, hb⟩
    have b8 := b7.trans (hb.mono b7.size)
    clear hb
    go_wp2_with fail
    refine (words_nil w8).mono ?_
    rintro e w9 ⟨rfl, hb⟩
    have b9 := b8.trans (hb.mono b8.size)
    clear hb
    go_wp2_with fail
    refine (all_nil w9).mono ?_
    rintro e w10 ⟨rfl, hb⟩
    have b10 := b9.trans (hb.mono b9.size)
    clear hb
    go_wp2_with fail
    refine (cloneR_nil w10).mono ?_
    rintro e w11 ⟨rfl, hb⟩
    have b11 := b10.trans (hb.mono b10.size)
    clear hb
    go_wp2_with fail
    refine (sameR_nil w11).mono ?_
    rintro e w12 ⟨rfl, hb⟩
    have b12 := b11.trans (hb.mono b11.size)
    clear hb
    go_wp2_with fail
    refine (sameR_nil w12).mono ?_
    rintro e w13 ⟨rfl, hb⟩
    have b13 := b12.trans (hb.mono b12.size)
    clear hb
    go_wp2_with fail
    go_ret
    exact ⟨rfl, b13⟩
theorem news_walk (a0 a1 : Int) (w : World) : Calls Try.prog 4 #[.int .i64 a0, .int .i64 a1] w fun e w' => e = .returned (.bool true) ∧ Below w.heap.size w w' := by
  by_cases h : 1 ≤ a0 ∧ a0 ≤ 32 ∧ 1 ≤ a1 ∧ a1 ≤ 32
  · have := news_ok a0.toNat a1.toNat w (by omega) (by omega)
    rwa [show ((a0.toNat : Nat) : Int) = a0 by omega, show ((a1.toNat : Nat) : Int) = a1 by omega] at this
  · exact news_bad a0 a1 w h
end Go.Proofs.Ytpejmkdmjlfgpaa
