/-
  WireOpens' walk: the sum of any bytes, they sealed, and what any bytes are when they are opened, is the document's.
-/
import Derived.Test.YthcegmijphbhgaaDoorROpen
namespace Go.Proofs.YthcegmijphbhgaaDoor
open Go.RowKit
set_option linter.unusedSimpArgs false
set_option linter.unusedVariables false
theorem same_true (A A' : Option Addr) (n m c c' : Nat) (l : List Int) (w : World) (B B' : Nat) (ha : Reads w B 1 A n (U l)) (hb : Reads w B' 1 A' m (U l)) (hn : n ≤ 1099511627776) (hm : m ≤ 1099511627776) :
    Calls Tryd.prog 14 #[.slice A n c, .slice A' m c'] w fun e w' => e = .returned (.bool true) ∧ Below w.heap.size w w' :=
  (same_any A A' n m c c' l l w B B' ha hb hn hm).mono fun e w' h => ⟨by rw [h.1]; simp, h.2⟩
theorem own_capA {w : World} {B n c : Nat} {A : Option Addr} {xs : List Value} (h : w.ownsRow B 5 1 (.slice A n c) n xs) : n ≤ c := by
  rcases h.2 with ⟨h1, h2⟩ | ⟨g', cap, cur, hv, _, _, hnc, _⟩
  · injection h1; omega
  · injection hv with _ _ h3; omega
theorem seal_open (l : List Int) : openE (l ++ wordB (sumV l)) = 0 ∧ openL (l ++ wordB (sumV l)) = l := by
  have e : openE (l ++ wordB (sumV l)) = 0 := by
    have := seal_ok l
    unfold okL at this
    unfold openE
    rw [if_neg (by rw [seal_len]; omega), if_pos this]
  refine ⟨e, ?_⟩
  unfold openL
  rw [if_pos e, seal_len, show l.length + 4 - 4 = l.length by omega, List.take_left]
set_option maxHeartbeats 2000000 in
theorem opens_walk (a : Option Addr) (len cap : Nat) (zs : List Int) (w : World) (h0 : IsRow .u8 w a len cap zs) (hl : Laid w) :
    Calls Tryd.prog 7 #[.slice a len cap] w fun e w' => e = .returned (.bool true) ∧ Below w.heap.size w w' := by
  obtain ⟨i0, hi, hz0, hz1, hz2⟩ := info_parts byte_info
  obtain ⟨k, hk, hk1, hk2⟩ : ∃ k : Nat, min (len : Int) 200 = (k : Int) ∧ k ≤ len ∧ k ≤ 200 := ⟨min len 200, by omega, by omega, by omega⟩
  obtain ⟨hr, hy, hlen, hc1, hc2⟩ := reads_row h0 k hk1
  have kc : (k : Int) ≤ (cap : Int) := by omega
  have k0 : (0 : Int) ≤ (k : Int) := by omega
  obtain ⟨bl, hbl⟩ : ∃ bl, zs.take k = bl := ⟨_, rfl⟩
  rw [hbl] at hr hy hlen
  have hck : k ≤ cap := by omega
  have SEAL := seal_any a k cap bl w hr hl hy (by omega)
  have RB := Lib.hid fun (W : World) (h : Below w.heap.size w W) => (hr.below h).more h.size
  have SUM := fun (W : World) (h : Below w.heap.size w W) => sum_all a k cap bl W _ (hr.below h) (hl.later h) hy (by omega)
  have RSUM := fun (W : World) (h : Below w.heap.size w W) => rsum_any a k cap bl W _ (hr.below h) hy (by omega)
  have OPB := Lib.hid fun (W : World) (h : Below w.heap.size w W) => open_any a k cap bl W ((hr.below h).more h.size) (hl.later h) hy (by omega) hck
  have ROPB := Lib.hid fun (W : World) (h : Below w.heap.size w W) => ropen_any a k cap bl W ((hr.below h).more h.size) hy (by omega) hck
  have OPS := fun (W : World) (A : Option Addr) (c : Nat) (h : Below w.heap.size w W) (R : Reads W W.heap.size 1 A (k + 4) (U (bl ++ wordB (sumV bl)))) (hc : k + 4 ≤ c) => open_any A (k + 4) c _ W R (hl.later h) (bytes_of (seal_oct hy)) (by omega) hc
  have KN := Lib.hid fun (W : World) (h : Below w.heap.size w W) => known_any W (hl.later h)
  have RW := fun (W : World) => rword_any (sumV bl) W (sumV_bd bl).1 (sumV_bd bl).2
  have SAME := Lib.hid fun (W : World) (A A' : Option Addr) (n m c c' B B' : Nat) (l : List Int) (ha : Reads W B 1 A n (U l)) (hb : Reads W B' 1 A' m (U l)) (h1 : n ≤ 1099511627776) (h2 : m ≤ 1099511627776) => same_true A A' n m c c' l W B B' ha hb h1 h2
  rw [(seal_open bl).1, (seal_open bl).2, hlen] at OPS
  obtain ⟨s, hs⟩ : ∃ s, sumV bl = s := ⟨_, rfl⟩
  rw [hs] at SEAL SUM RSUM OPS RW
  have HSEAL := Lib.hid SEAL
  have HSUM := Lib.hid SUM
  have HRSUM := Lib.hid RSUM
  have HOPS := Lib.hid OPS
  have HRW := Lib.hid RW
  obtain ⟨oe, hoe⟩ : ∃ oe, Hid (openE bl = oe) := ⟨_, rfl⟩
  obtain ⟨on, hon⟩ : ∃ on, Hid ((openL bl).length = on) := ⟨_, rfl⟩
  have onk : on ≤ 1000 := by
    rw [← hon.out]; unfold openL; split
    · simp; omega
    · simp
  rw [hoe.out, hon.out] at OPB ROPB
  clear SEAL SUM RSUM OPS RW hl hr hy hc1 hc2 h0 hs hbl hlen hck hk1
  go_enter Tryd.func7, Tryd.ntmps7
  go_wp2_with fail
  refine HSEAL.out.mono ?_
  rintro e w1 ⟨A1, c1, rfl, ho1, b1⟩
  go_wp2_with fail
  refine (HSUM.out w1 b1).mono ?_
  rintro e w2 ⟨rfl, hb⟩
  have b12 := hb
  have b2 := b1.trans (hb.mono b1.size)
  clear hb
  go_wp2_with fail
  refine (HRSUM.out w2 b2).mono ?_
  rintro e w3 ⟨rfl, hb⟩
  have b13 := b12.trans (hb.mono b12.size)
  have b3 := b2.trans (hb.mono b2.size)
  clear hb b12 b2
  have ho3 := own_below ho1 b13
  have HO3 := Lib.hid ho3
  clear ho1 b13 b1 ho3
  have c3 := Below.refl w3.heap.size w3
  have a3 : Below w.heap.size w (w3.alloc (.cells #[] 5)) := b3.alloc b3.size _
  have B3 := Lib.hid b3
  clear b3
  go_wp2_with (at_builtin; refine wpList_append_anyG _ (by rfl) (.tmp 24) (.tmp 25) _ rfl w3.heap.size 5 i0 _ 1 1 Tryd.underlying22 hi hz0 hz1 hz2 rfl (by omega) (.slice (some ⟨w3.heap.size, 0, none⟩) 0 0) 0 (U []) rfl (own_new0 w3.heap.size w3 c3.size) _ a k cap (U bl) rfl (RB.out _ a3) (U_one _) ?c2 ?c3 ?c4 ?_)
  case c2 => unfold maxLen; omega
  case c3 => omega
  case c4 => first | (simp; done) | (simp; omega) | omega
  intro v4 w4 hown4 hg4 _
  have hown4' : w4.ownsRow w3.heap.size 5 1 v4 k (U bl) := by simpa using hown4
  obtain ⟨A4, c4, hv, ho4, b4⟩ := own_of (own_new0 w3.heap.size w3 c3.size) (c3.alloc c3.size _) (by first | (simp; done) | (simp; omega) | omega) hown4' hg4
  rw [hv]
  clear hv hown4 hown4' hg4 a3 c3
  have B4 := Lib.hid (B3.out.trans (b4.mono B3.out.size))
  go_wp2_with fail
  refine (HRSUM.out w4 B4.out).mono ?_
  rintro e w5 ⟨rfl, b5⟩
  have ho5 := own_below ho4 b5
  have b45 := b4.trans (b5.mono b4.size)
  clear ho4 b4 b5
  go_wp2_with fail
  refine (HRW.out w5).mono ?_
  rintro e w6 ⟨A6, c6, rfl, ho6w, b6⟩
  have ho6 := own_below ho5 b6
  have b46 := b45.trans (b6.mono b45.size)
  have rw6 := Reads.of_own ho6w
  clear ho5 b6 b45 ho6w
  go_wp2_with (at_builtin; refine wpList_append_anyG _ (by rfl) (.tmp 26) (.tmp 29) _ rfl w3.heap.size 5 i0 _ 1 1 Tryd.underlying22 hi hz0 hz1 hz2 rfl (by omega) (.slice A4 k c4) k (U bl) rfl ho6 _ A6 4 c6 (U (wordB s)) rfl rw6 (U_one _) ?c2 ?c3 ?c4 ?_)
  case c2 => unfold maxLen; omega
  case c3 => omega
  case c4 => have := b46.size; first | (simp; done) | (simp; omega) | omega
  intro v7 w7 hown7 hg7 _
  have hown7' : w7.ownsRow w3.heap.size 5 1 v7 (k + 4) (U (bl ++ wordB s)) := by simpa using hown7
  obtain ⟨A7, c7, hv, ho7, b47⟩ := own_of ho6 b46 b46.size hown7' hg7
  rw [hv]
  clear hv hown7 hown7' hg7 ho6 b46 rw6
  have hs7 := own_below HO3.out b47
  have B7 := Lib.hid (B3.out.trans (b47.mono B3.out.size))
  have r7 := Reads.of_own ho7
  have rs7 := Reads.of_own hs7
  have HS7 := Lib.hid hs7
  clear hs7 ho7 b47
  go_wp2_with fail
  refine (SAME.out w7 A1 A7 _ _ c1 c7 _ _ _ rs7 r7 (by omega) (by omega)).mono ?_
  rintro e w8 ⟨rfl, b8⟩
  have B8 := Lib.hid (B7.out.trans (b8.mono B7.out.size))
  have hs8 := own_below HS7.out b8
  have rs8 := Reads.of_own hs8
  have hc8 := own_capA hs8
  clear b8 hs8 r7 rs7 HS7 HO3
  go_wp2_with fail
  refine (HOPS.out w8 A1 c1 B8.out rs8 hc8).mono ?_
  rintro e w9 ⟨A9, c9, rfl, ho9, b9⟩
  have B9 := Lib.hid (B8.out.trans (b9.mono B8.out.size))
  have R9 := Lib.hid (Reads.of_own ho9)
  clear b9 ho9 rs8 hc8
  go_wp2_with fail
  refine (OPB.out w9 B9.out).mono ?_
  rintro e w10 ⟨A10, c10, rfl, ho10, b10⟩
  have B10 := Lib.hid (B9.out.trans (b10.mono B9.out.size))
  have R9 := Lib.hid ((R9.out.below b10).more b10.size)
  have R10 := Lib.hid (Reads.of_own ho10)
  clear b10 ho10
  go_wp2_with fail
  refine (ROPB.out w10 B10.out).mono ?_
  rintro e w11 ⟨A11, c11, rfl, ho11, b11⟩
  have B11 := Lib.hid (B10.out.trans (b11.mono B10.out.size))
  have R9 := Lib.hid ((R9.out.below b11).more b11.size)
  have R10 := Lib.hid ((R10.out.below b11).more b11.size)
  have R11 := Lib.hid (Reads.of_own ho11)
  clear b11 ho11
  go_wp2_with fail
  refine (KN.out w11 B11.out).mono ?_
  rintro e w12 ⟨rfl, b12⟩
  have B12 := Lib.hid (B11.out.trans (b12.mono B11.out.size))
  have R9 := Lib.hid ((R9.out.below b12).more b12.size)
  have R10 := Lib.hid ((R10.out.below b12).more b12.size)
  have R11 := Lib.hid ((R11.out.below b12).more b12.size)
  clear b12
  go_wp2_with fail
  refine (SAME.out w12 A9 a _ _ c9 cap _ _ _ R9.out (RB.out w12 B12.out) (by omega) (by omega)).mono ?_
  rintro e w13 ⟨rfl, b13⟩
  have B13 := Lib.hid (B12.out.trans (b13.mono B12.out.size))
  have R10 := Lib.hid ((R10.out.below b13).more b13.size)
  have R11 := Lib.hid ((R11.out.below b13).more b13.size)
  clear b13
  go_wp2_with fail
  refine (SAME.out w13 A10 A11 _ _ c10 c11 _ _ _ R10.out R11.out (by omega) (by omega)).mono ?_
  rintro e w14 ⟨rfl, b14⟩
  have B14 := B13.out.trans (b14.mono B13.out.size)
  go_wp2_with fail
  go_ret
  exact ⟨rfl, B14⟩
end Go.Proofs.YthcegmijphbhgaaDoor
