/-
  RingRounds' walk: put and taken in turn, messages come out in order.
-/
import Derived.Test.YtpejmkdmjlfgpaaTold
namespace Go.Proofs.Ytpejmkdmjlfgpaa
open Go.RowKit
set_option linter.unusedSimpArgs false
set_option linter.unusedVariables false
/-- A slice of bools as the walk reads it. -/
def BoolRow (w : World) (a : Option Addr) (len : Nat) : Prop := 0 < len → ∃ (b off : Nat) (B : Nat → Bool), a = some ⟨b, off, none⟩ ∧ ∀ i, i < len → w.cell? ⟨b, off + i, none⟩ = some (.bool (B i))
theorem boolRow_of {w : World} {x : Addr} {l c : Nat} {B : Nat → Bool} (hl : l ≤ c) (hm : c ≤ maxLen) (hcell : ∀ i, i < c → w.cell? (x.add i) = some (.bool (B i))) : BoolRow w (some x) l ∧ l ≤ maxLen := by
  refine ⟨fun h0 => ?_, Nat.le_trans hl hm⟩
  obtain ⟨b, off, spot⟩ := x
  have h1 := hcell 0 (by omega)
  have hs : spot = none := by simpa [Addr.add] using World.cell?_spot h1
  subst hs
  exact ⟨b, off, B, rfl, fun i hi => by have := hcell i (by omega); rwa [Addr.add_lit] at this⟩
/-- The messages that are in. -/
def Seq (o k : Nat) : List (List Int) := (List.range k).map fun j => [((o + j : Nat) : Int)]
theorem seq_len (o k : Nat) : (Seq o k).length = k := by simp [Seq]
theorem seq_zero (o : Nat) : Seq o 0 = [] := rfl
theorem seq_put (o k : Nat) : Seq o k ++ [[((o + k : Nat) : Int)]] = Seq o (k + 1) := by
  unfold Seq
  rw [List.range_succ, List.map_append]; rfl
theorem seq_take (o k : Nat) : Seq o (k + 1) = [(o : Int)] :: Seq (o + 1) k := by
  unfold Seq
  rw [List.range_succ_eq_map, List.map_cons, List.map_map]
  congr 1
  apply List.map_congr_left
  intro j _
  simp only [Function.comp_apply]
  congr 1
  omega
structure RoundRel (w : World) (g n len : Nat) (i a b : Value) (wr : World) : Prop where
  ex : ∃ (j x y k f : Nat), j ≤ len ∧ j ≤ 300 ∧ x ≤ j ∧ x = y + k ∧ k ≤ n ∧ i = .int .i64 (j : Int) ∧ a = .int .u32 (x : Int) ∧ b = .int .u32 (y : Int) ∧ RingF wr (fun b => b ≠ g) g n 1 f (Seq y k) ∧ Below w.heap.size w wr

set_option maxRecDepth 100000 in
set_option maxHeartbeats 4000000 in
theorem rounds_walk (room : Int) (a : Option Addr) (len cap : Nat) (w : World) (h0 : (Lit.int .i64 room).wf = true) (h1 : BoolRow w a len) (hlen : len ≤ maxLen) :
    Calls Try.prog 8 #[.int .i64 room, .slice a len cap] w fun e w' => e = .returned (.bool true) ∧ Below w.heap.size w w' := by
  obtain ⟨u, hu⟩ : ∃ u : Nat, IntKind.u64.wrap room = (u : Int) := ⟨(IntKind.u64.wrap room).toNat, by rw [IntKind.wrap_u64]; omega⟩
  obtain ⟨q, hq⟩ : ∃ q : Nat, (u : Int) % 32 = (q : Int) := ⟨u % 32, by omega⟩
  have q32 : q < 32 := by omega
  have qi : IntKind.i64.wrap (q : Int) = (q : Int) := IntWalk.i64_in _ (by omega)
  obtain ⟨n, hn, n1, n2⟩ : ∃ n : Nat, (1 : Int) + (q : Int) = (n : Int) ∧ 1 ≤ n ∧ n ≤ 32 := ⟨1 + q, by omega, by omega, by omega⟩
  have q1 : wrap64 (n : Int) = (n : Int) := by unfold wrap64; omega
  have q1' : IntKind.i64.wrap (n : Int) = (n : Int) := IntWalk.i64_in _ (by omega)
  have q0 : (0 : Int) ≤ (q : Int) := by omega
  have NEW := Lib.hid (new_ok n 1 w ⟨n1, n2⟩ ⟨by omega, by omega⟩)
  have H1 := Lib.hid h1
  have HL : Hid (len ≤ 9223372036854775807) := by unfold maxLen at hlen; unfold Hid; omega
  have HN := Lib.hid (And.intro n1 n2)
  clear q32 h1 hlen n1 n2
  go_enter Try.func8, Try.ntmps8
  go_wp2_with fail
  refine NEW.out.mono ?_
  rintro e w1 ⟨rfl, R1, b1⟩
  obtain ⟨g, hg⟩ : ∃ g, w.heap.size = g := ⟨_, rfl⟩
  have R1 := R1.more (Q' := fun b => b ≠ w.heap.size) (fun b hb => hb.elim) (fun h => h rfl)
  have HR := Lib.hid R1
  have B1 := Lib.hid b1
  clear R1 b1 NEW
  simp only [hq]
  clear hq
  rw [hg] at HR
  simp only [hg]
  go_wp2_with fail
  refine (told_any w1).mono ?_
  rintro e w2 ⟨rfl, b2⟩
  have R2 := HR.out.below b2
  have B2 := B1.out.trans (b2.mono B1.out.size)
  have HG := Lib.hid hg
  clear b2 B1 HR hg hu q1 q1' qi q0 hn
  go_wp2_with fail
  go_loopw [8, 9, 10] (fun x y i wr => RoundRel w g n len i x y wr) (fun _ _ i _ => 300 - (intOf i).toNat)
  case atStart => exact ⟨⟨0, 0, 0, 0, 0, by omega, by omega, by omega, by omega, by omega, rfl, rfl, rfl, R2, B2⟩⟩
  case round =>
    clear R2 B2
    obtain ⟨⟨j, x, y, k, f, hj, hj3, hx, hxy, hkn, rfl, rfl, rfl, hR, hB⟩⟩ := hrel
    by_cases hlt : j < len
    · by_cases h300 : j < 300
      · obtain ⟨b, off, B, rfl, hc⟩ := H1.out (by omega)
        have hcell := cell_later hB (hc j hlt)
        obtain ⟨tb, htb⟩ : ∃ tb, Hid (B j = tb) := ⟨_, rfl⟩
        rw [htb.out] at hcell
        have x1 : (x : Int) ≤ 300 := by omega
        have y1 : (y : Int) ≤ 300 := by omega
        have xyk : (x : Int) - (y : Int) = (k : Int) := by omega
        have kw : IntKind.u32.wrap (k : Int) = (k : Int) := by simp [IntKind.wrap, IntKind.bits, IntKind.signed]; omega
        have kw' : (k : Int) % 4294967296 = (k : Int) := by omega
        have ki : IntKind.i64.wrap (k : Int) = (k : Int) := IntWalk.i64_in _ (by omega)
        have HN1 := HN.out
        have HR := Lib.hid hR
        have HB := Lib.hid hB
        have HXY := Lib.hid hxy
        cases tb with
        | true =>
          by_cases hfull : k = n
          · subst hfull
            clear hc hR hB hxy
            go_wp2_with fail
            have RA := HR.out.below ((Below.refl _ wr).alloc (Nat.le_refl _) (.cells (U [(x : Int)]).toArray 52))
            refine (put_full _ _ _ _ _ _ _ RA _ 1 1 (by omega) (seq_len _ _)).mono ?_
            rintro e w3 ⟨rfl, b3⟩
            have R3 := RA.below b3
            have B3 := Lib.hid ((HB.out.alloc HB.out.size (.cells (U [(x : Int)]).toArray 52)).trans (b3.mono (by have := HB.out.size; simp; omega)))
            have LEN := len_any _ _ _ _ _ _ _ R3
            rw [seq_len] at LEN
            have HLEN := Lib.hid LEN
            have HR3 := Lib.hid R3
            clear LEN R3 b3 RA HR
            go_wp2_with fail
            refine HLEN.out.mono ?_
            rintro e w4 ⟨rfl, b4⟩
            have R4 := Lib.hid (HR3.out.below b4)
            have B4 := Lib.hid (B3.out.trans (b4.mono B3.out.size))
            clear b4 HLEN HR3
            go_wp2_with fail
            go_roundw
            case rel => first | exact ⟨⟨j + 1, x, y, k, f, by omega, by omega, by omega, by omega, by omega, by go_num, by go_num, by go_num, R4.out, B4.out⟩⟩ | ((repeat apply Exists.intro); exact ⟨⟨⟨j + 1, x, y, k, f, by omega, by omega, by omega, by omega, by omega, by go_num, by go_num, by go_num, R4.out, B4.out⟩⟩, rfl⟩)
            case measure => simp [intOf]; omega
          · have kn : (k : Int) < (n : Int) := by omega
            have kne : ((k : Int) == (n : Int)) = false := by simp; omega
            have xyk1 : (x : Int) + 1 - (y : Int) = (k : Int) + 1 := by omega
            have k1 : (k : Int) + 1 ≤ 300 := by omega
            have k0 : (0 : Int) ≤ (k : Int) + 1 := by omega
            have HF : Hid (k < n) := by unfold Hid; omega
            clear hc hR hB hxy hfull
            go_wp2_with fail
            have RA := HR.out.below ((Below.refl _ wr).alloc (Nat.le_refl _) (.cells (U [(x : Int)]).toArray 52))
            refine (put_ok _ _ _ _ _ _ _ RA (some ⟨wr.heap.size, 0, none⟩) 1 1 [(x : Int)] (fun h => by cases h) (reads_newU wr [(x : Int)]) (by omega) (by rw [seq_len]; exact HF.out)).mono ?_
            rintro e w3 ⟨rfl, R3, p3⟩
            have lt3 := RA.lt
            have R3 := R3.more (Q' := fun b => b ≠ g) (fun b hb => by
              rcases hb with h1 | h1
              · exact h1
              · omega) (fun h => h rfl)
            have e3 : Seq y k ++ [[(x : Int)]] = Seq y (k + 1) := by rw [HXY.out]; exact seq_put y k
            rw [e3] at R3
            have B3 := Lib.hid ((HB.out.alloc HB.out.size (.cells (U [(x : Int)]).toArray 52)).trans (p3.below (by have := HG.out; omega) (by have := HB.out.size; simp; omega)))
            have LEN := len_any _ _ _ _ _ _ _ R3
            rw [seq_len, show (((k + 1 : Nat)) : Int) = (k : Int) + 1 by omega] at LEN
            have HLEN := Lib.hid LEN
            have HR3 := Lib.hid R3
            clear LEN R3 p3 RA HR e3 lt3
            go_wp2_with fail
            refine HLEN.out.mono ?_
            rintro e w4 ⟨rfl, b4⟩
            have R4 := Lib.hid (HR3.out.below b4)
            have B4 := Lib.hid (B3.out.trans (b4.mono B3.out.size))
            clear b4 HLEN HR3
            go_wp2_with fail
            have hxy := HXY.out
            have hkn := HF.out
            go_roundw
            case rel => first | exact ⟨⟨j + 1, x + 1, y, k + 1, f, by omega, by omega, by omega, by omega, by omega, by go_num, by go_num, by go_num, R4.out, B4.out⟩⟩ | ((repeat apply Exists.intro); exact ⟨⟨⟨j + 1, x + 1, y, k + 1, f, by omega, by omega, by omega, by omega, by omega, by go_num, by go_num, by go_num, R4.out, B4.out⟩⟩, rfl⟩)
            case measure => simp [intOf]; omega
        | false =>
          by_cases hk0 : k = 0
          · subst hk0
            obtain rfl : x = y := by omega
            have TN := Lib.hid (take_none _ _ _ _ _ _ hR)
            clear hc hR hB hxy
            go_wp2_with fail
            refine TN.out.mono ?_
            rintro e w3 ⟨rfl, b3⟩
            have R3 := HR.out.below b3
            have B3 := Lib.hid (HB.out.trans (b3.mono HB.out.size))
            have LEN := len_any _ _ _ _ _ _ _ R3
            rw [seq_len, show ((0 : Nat) : Int) = 0 by rfl] at LEN
            have HLEN := Lib.hid LEN
            have HR3 := Lib.hid R3
            clear LEN R3 b3 HR TN
            go_wp2_with fail
            refine HLEN.out.mono ?_
            rintro e w4 ⟨rfl, b4⟩
            have R4 := Lib.hid (HR3.out.below b4)
            have B4 := Lib.hid (B3.out.trans (b4.mono B3.out.size))
            clear b4 HLEN HR3
            go_wp2_with fail
            go_roundw
            case rel => first | exact ⟨⟨j + 1, x, x, 0, f, by omega, by omega, by omega, by omega, by omega, by go_num, by go_num, by go_num, R4.out, B4.out⟩⟩ | ((repeat apply Exists.intro); exact ⟨⟨⟨j + 1, x, x, 0, f, by omega, by omega, by omega, by omega, by omega, by go_num, by go_num, by go_num, R4.out, B4.out⟩⟩, rfl⟩)
            case measure => simp [intOf]; omega
          · obtain ⟨i, rfl⟩ : ∃ i, k = i + 1 := ⟨k - 1, by omega⟩
            have yx : (y : Int) < (x : Int) := by omega
            have xyk1 : (x : Int) - ((y : Int) + 1) = (i : Int) := by omega
            have i1 : (i : Int) ≤ 300 := by omega
            have HR' := hR
            rw [seq_take] at HR'
            have TK := Lib.hid (take_some _ _ _ _ _ _ _ _ _ HR' rfl)
            have HIN : Hid (x = y + (i + 1) ∧ i + 1 ≤ n) := ⟨hxy, hkn⟩
            clear hc hR hB hxy HR' hkn xyk kw kw' ki
            go_wp2_with fail
            refine TK.out.mono ?_
            rintro e w3 ⟨A3, c3, rfl, s3, R3, p3⟩
            have S3 := s3.keep (w' := w3.alloc (.cells (U [(y : Int)]).toArray 52)) (by simp) fun k hk _ => ((Below.refl _ w3).alloc (Nat.le_refl _) _).block k hk
            obtain ⟨A, c, hv, _, hr, _⟩ := S3.ex
            injection hv with e1 _ e2
            subst e1
            subst e2
            have B3 := HB.out.trans (p3.below (by have := HG.out; omega) HB.out.size)
            have BA := Lib.hid (B3.alloc B3.size (.cells (U [(y : Int)]).toArray 52))
            have RA := Lib.hid (R3.below ((Below.refl _ w3).alloc (Nat.le_refl _) (.cells (U [(y : Int)]).toArray 52)))
            have SM := Lib.hid (same_true A3 (some ⟨w3.heap.size, 0, none⟩) 1 1 c3 1 [(y : Int)] _ _ _ hr (reads_newU w3 [(y : Int)]) (by omega) (by omega))
            clear S3 s3 R3 p3 hr B3 TK HR HB
            go_wp2_with fail
            refine SM.out.mono ?_
            rintro e w4 ⟨rfl, b4⟩
            have R4 := RA.out.below b4
            have B4 := Lib.hid (BA.out.trans (b4.mono BA.out.size))
            have LEN := len_any _ _ _ _ _ _ _ R4
            rw [seq_len] at LEN
            have HLEN := Lib.hid LEN
            have HR4 := Lib.hid R4
            clear LEN R4 b4 RA BA SM
            go_wp2_with fail
            refine HLEN.out.mono ?_
            rintro e w5 ⟨rfl, b5⟩
            have R5 := Lib.hid (HR4.out.below b5)
            have B5 := Lib.hid (B4.out.trans (b5.mono B4.out.size))
            clear b5 HLEN HR4
            go_wp2_with fail
            obtain ⟨hxy, hkn⟩ := HIN.out
            go_roundw
            case rel => first | exact ⟨⟨j + 1, x, y + 1, i, _, by omega, by omega, by omega, by omega, by omega, by go_num, by go_num, by go_num, R5.out, B5.out⟩⟩ | ((repeat apply Exists.intro); exact ⟨⟨⟨j + 1, x, y + 1, i, _, by omega, by omega, by omega, by omega, by omega, by go_num, by go_num, by go_num, R5.out, B5.out⟩⟩, rfl⟩)
            case measure => simp [intOf]; omega
      · have HB := Lib.hid hB
        clear hB hR
        go_wp2_with fail
        go_ret
        exact ⟨rfl, HB.out⟩
    · have HB := Lib.hid hB
      clear hB hR
      go_wp2_with fail
      go_ret
      exact ⟨rfl, HB.out⟩
end Go.Proofs.Ytpejmkdmjlfgpaa
