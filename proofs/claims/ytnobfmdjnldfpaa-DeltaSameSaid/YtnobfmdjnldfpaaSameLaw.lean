/-
  The walk of DeltaSame. Each statement bears its own conditions.
-/
import Derived.Test.YtnobfmdjnldfpaaMade
namespace Go.Proofs.Ytnobfmdjnldfpaa
open Go.RowKit
set_option linter.unusedVariables false
set_option linter.unusedSimpArgs false
theorem cut_cut (L : List (Int × Int)) (id : Int) : cut (cut L id) id = cut L id := by
  unfold cut; rw [List.filter_filter]; congr 1; funext x; simp
theorem mset_mset (L : List (Int × Int)) (id a b : Int) : mset (mset L id a) id b = mset L id b := by
  unfold mset; rw [cut_app, cut_cut]; simp
set_option maxRecDepth 100000 in
set_option maxHeartbeats 8000000 in
theorem same_walk (a : Option Addr) (len cap : Nat) (a' : Option Addr) (len' cap' : Nat) (w : World) (h0 : DeedRow w a len) (hlen : len ≤ maxLen) (h0' : DeedRow w a' len') (hlen' : len' ≤ maxLen) :
    Calls Try.prog 5 #[.slice a len cap, .slice a' len' cap'] w fun e w' => e = .returned (.bool true) ∧ Below w.heap.size w w' := by
  have SP := Lib.hid (speaks_any w)
  have H0 := Lib.hid h0
  have H0' := Lib.hid h0'
  by_cases h40 : len ≤ 40
  · by_cases h41 : len' ≤ 40
    · have h4I : ¬ (40 : Int) < (len : Int) := by omega
      have h4I' : ¬ (40 : Int) < (len' : Int) := by omega
      have HN : Hid (len ≤ 40) := h40
      have HN' : Hid (len' ≤ 40) := h41
      clear h0 hlen h40 h0' hlen' h41
      go_enter Try.func5, Try.ntmps5
      go_wp2_with fail
      refine SP.out.mono ?_
      rintro e w1 ⟨rfl, b1⟩
      have HA : Hid (DeedRow w1 a len) := fun h => by
        obtain ⟨b, off, K, M, T, r1, r2⟩ := H0.out h
        exact ⟨b, off, K, M, T, r1, fun r hr => by obtain ⟨x1, x2, x3, x4⟩ := r2 r hr; exact ⟨cell_later b1 x1, cell_later b1 x2, cell_later b1 x3, x4⟩⟩
      have HA' : Hid (DeedRow w1 a' len') := fun h => by
        obtain ⟨b, off, K, M, T, r1, r2⟩ := H0'.out h
        exact ⟨b, off, K, M, T, r1, fun r hr => by obtain ⟨x1, x2, x3, x4⟩ := r2 r hr; exact ⟨cell_later b1 x1, cell_later b1 x2, cell_later b1 x3, x4⟩⟩
      have B1 := Lib.hid b1
      clear b1 SP H0 H0'
      go_wp2_with fail
      refine (made_any a len cap w1 HA.out HN.out).mono ?_
      rintro e w2 ⟨g, rb, A, k, c, m, rfl, t2, m2, d2, k2, b2, g2, r2⟩
      have HA' : Hid (DeedRow w2 a' len') := fun h => by
        obtain ⟨b, off, K, M, T, r1, r2⟩ := HA'.out h
        exact ⟨b, off, K, M, T, r1, fun r hr => by obtain ⟨x1, x2, x3, x4⟩ := r2 r hr; exact ⟨cell_later b2 x1, cell_later b2 x2, cell_later b2 x3, x4⟩⟩
      have T1 := Lib.hid t2
      have R1 := Lib.hid m2.reads
      have HD := Lib.hid d2
      have NK : Hid (m.length = k ∧ k ≤ 40) := ⟨m2.len, k2⟩
      have BX := Lib.hid (B1.out.trans (b2.mono B1.out.size))
      have NG : Hid (w.heap.size ≤ g ∧ w.heap.size ≤ rb) := by unfold Hid; have := B1.out.size; omega
      clear t2 m2 d2 k2 b2 g2 r2 HA B1
      go_wp2_with fail
      refine (made_any a' len' cap' w2 HA'.out HN'.out).mono ?_
      rintro e w3 ⟨g', rb', A', k', c', n, rfl, t3, m3, d3, k3, b3, g3, r3⟩
      have T1 := Lib.hid (T1.out.below b3)
      have R1 := Lib.hid ((R1.out.below b3).more b3.size)
      have T2 := Lib.hid t3
      have R2 := Lib.hid m3.reads
      have NM : Hid (m.length = k ∧ n.length = k' ∧ k ≤ 1000 ∧ k' ≤ 1000) := by unfold Hid; have := NK.out; have := m3.len; omega
      have NL : Hid ((ord m).length ≤ 1000 ∧ (ord n).length ≤ 1000) := by unfold Hid; rw [ord_len, ord_len]; have := NM.out; omega
      have BX := Lib.hid (BX.out.trans (b3.mono BX.out.size))
      clear t3 m3 d3 k3 b3 g3 r3 HA'
      go_wp2_with fail
      obtain ⟨d, hd⟩ : ∃ d, decide (ord m = ord n) = d := ⟨_, rfl⟩
      have HDE : Hid (decide (ord m = ord n) = d) := hd
      have HDE' : Hid (decide (ord n = ord m) = d) := by unfold Hid; rw [← hd]; exact decide_eq_decide.2 eq_comm
      clear hd
      refine (tsame_any g rb g' rb' (ord m) (ord n) w3 T1.out T2.out NL.out.1 NL.out.2).mono ?_
      rintro e w4 ⟨rfl, b4⟩
      rw [HDE.out]
      have T1 := Lib.hid (T1.out.below b4)
      have T2 := Lib.hid (T2.out.below b4)
      have R1 := Lib.hid ((R1.out.below b4).more b4.size)
      have R2 := Lib.hid ((R2.out.below b4).more b4.size)
      have BX := Lib.hid (BX.out.trans (b4.mono BX.out.size))
      clear b4
      go_wp2_with fail
      refine (alike_any A A' k k' c c' m n w4 w4.heap.size w4.heap.size R1.out NM.out.1 NM.out.2.2.1 (Nat.le_refl _) R2.out NM.out.2.1 NM.out.2.2.2 (Nat.le_refl _)).mono ?_
      rintro e w5 ⟨rfl, b5⟩
      rw [HDE.out]
      have T1 := Lib.hid (T1.out.below b5)
      have T2 := Lib.hid (T2.out.below b5)
      have R1 := Lib.hid ((R1.out.below b5).more b5.size)
      have BX := Lib.hid (BX.out.trans (b5.mono BX.out.size))
      clear b5 R2
      have hdd : ∀ w, (binOp .neq 4 (.bool d) (.bool d)).run Try.prog w = .ok (.bool false) w := fun _ => by cases d <;> rfl
      go_wp2_with fail
      refine (tsame_any g' rb' g rb (ord n) (ord m) w5 T2.out T1.out NL.out.2 NL.out.1).mono ?_
      rintro e w6 ⟨rfl, b6⟩
      rw [HDE'.out]
      have T1 := Lib.hid (T1.out.below b6)
      have T2 := Lib.hid (T2.out.below b6)
      have R1 := Lib.hid ((R1.out.below b6).more b6.size)
      have BX := Lib.hid (BX.out.trans (b6.mono BX.out.size))
      clear b6
      go_wp2_with fail
      refine (tsame_any g rb g' rb' (ord m) (ord n) w6 T1.out T2.out NL.out.1 NL.out.2).mono ?_
      rintro e w7 ⟨rfl, b7⟩
      rw [HDE.out]
      have T1 := Lib.hid (T1.out.below b7)
      have R1 := Lib.hid ((R1.out.below b7).more b7.size)
      have BX := Lib.hid (BX.out.trans (b7.mono BX.out.size))
      clear b7 T2
      go_wp2_with fail
      refine (tsame_any g rb g rb (ord m) (ord m) w7 T1.out T1.out NL.out.1 NL.out.1).mono ?_
      rintro e w8 ⟨rfl, b8⟩
      rw [decide_eq_true rfl]
      have T1 := Lib.hid (T1.out.below b8)
      have R1 := Lib.hid ((R1.out.below b8).more b8.size)
      have BX := Lib.hid (BX.out.trans (b8.mono BX.out.size))
      clear b8 hdd
      go_wp2_with fail
      refine (tclone_any g rb (ord m) w8 T1.out NL.out.1).mono ?_
      rintro e w9 ⟨g3, rb3, rfl, t9, hg3, hrb3, b9⟩
      have NZ : Hid (g < w8.heap.size ∧ rb < w8.heap.size ∧ w8.heap.size ≤ g3 ∧ w8.heap.size ≤ rb3) := ⟨T1.out.lt, T1.out.rlt, hg3, hrb3⟩
      have NW : Hid (w.heap.size ≤ w8.heap.size) := BX.out.size
      have T1 := Lib.hid (T1.out.below b9)
      have T3 := Lib.hid t9
      have R1 := Lib.hid (R1.out.below b9)
      have BX := Lib.hid (BX.out.trans (b9.mono BX.out.size))
      have N9 : Hid (w8.heap.size ≤ w9.heap.size) := b9.size
      clear t9 hg3 hrb3 b9
      have he : ∀ (x : Nat) (w : World), (binOp .eql 24 (.pointer (some ⟨x, 0, none⟩)) (.pointer none)).run Try.prog w = .ok (.bool false) w := fun _ _ => rfl
      go_wp2_with fail
      refine (tsame_any g3 rb3 g rb (ord m) (ord m) w9 T3.out T1.out NL.out.1 NL.out.1).mono ?_
      rintro e w10 ⟨rfl, b10⟩
      rw [decide_eq_true rfl]
      have T1 := Lib.hid (T1.out.below b10)
      have T3 := Lib.hid (T3.out.below b10)
      have R1 := Lib.hid (R1.out.below (b10.mono N9.out))
      have N9 : Hid (w8.heap.size ≤ w10.heap.size) := Nat.le_trans N9.out b10.size
      have BX := Lib.hid (BX.out.trans (b10.mono BX.out.size))
      clear b10 he
      go_wp2_with fail
      refine (set_any g3 rb3 1 2 (ord m) w10 T3.out (del_srt (ord_srt m) 1) NL.out.1).mono ?_
      rintro e w11 ⟨rb4, rfl, t11, r11, c11⟩
      rw [← ord_mset HD.out] at t11
      have T1 : Hid (TF w11 g rb (ord m)) := T1.out.ch c11 (by have := NZ.out; omega) (by have := NZ.out; omega) (by have := NZ.out; omega) (by have := NZ.out; omega)
      have R1 : Hid (Reads w11 w8.heap.size 2 A k (C m)) := R1.out.below (c11.below (by have := NZ.out; omega) (by have := NZ.out; omega) N9.out)
      have NZ4 : Hid (w8.heap.size ≤ rb4) := by unfold Hid; have := NZ.out; have := N9.out; rcases r11 with r | r <;> omega
      have BX := Lib.hid (BX.out.trans (c11.below (B := w.heap.size) (by have := NZ.out; have := NW.out; omega) (by have := NZ.out; have := NW.out; omega) BX.out.size))
      have T3 := Lib.hid t11
      have N9 : Hid (w8.heap.size ≤ w11.heap.size) := Nat.le_trans N9.out c11.size
      have ML : Hid ((ord (mset m 1 2)).length ≤ 1000) := by unfold Hid; rw [ord_len]; have := mset_len m 1 2; have := NK.out; omega
      have MD := Lib.hid (mset_dst HD.out 1 2)
      clear t11 r11 c11
      go_wp2_with fail
      refine (set_any g3 rb4 1 3 (ord (mset m 1 2)) w11 T3.out (del_srt (ord_srt _) 1) ML.out).mono ?_
      rintro e w12 ⟨rb5, rfl, t12, r12, c12⟩
      rw [← ord_mset MD.out, mset_mset] at t12
      have T1 : Hid (TF w12 g rb (ord m)) := T1.out.ch c12 (by have := NZ.out; omega) (by have := NZ.out; have := NZ4.out; omega) (by have := NZ.out; omega) (by have := NZ.out; have := NZ4.out; omega)
      have R1 : Hid (Reads w12 w8.heap.size 2 A k (C m)) := R1.out.below (c12.below (by have := NZ.out; omega) NZ4.out N9.out)
      have BX := Lib.hid (BX.out.trans (c12.below (B := w.heap.size) (by have := NZ.out; have := NW.out; omega) (by have := NZ4.out; have := NW.out; omega) BX.out.size))
      have T3 := Lib.hid t12
      have N9 : Hid (w8.heap.size ≤ w12.heap.size) := Nat.le_trans N9.out c12.size
      have ML : Hid ((mset m 1 3).length ≤ 1000) := by unfold Hid; have := mset_len m 1 3; have := NK.out; omega
      clear t12 r12 c12 MD
      obtain ⟨m3, hm3⟩ : ∃ m3, mset m 1 3 = m3 := ⟨_, rfl⟩
      have HM3 := Lib.hid hm3
      rw [hm3] at T3 ML
      obtain ⟨d2, hd2⟩ : ∃ d2, decide (ord m3 = ord m) = d2 := ⟨_, rfl⟩
      have HD2 := Lib.hid hd2
      clear hm3 hd2
      go_wp2_with fail
      refine (tsame_any g3 rb5 g rb (ord m3) (ord m) w12 T3.out T1.out (by rw [ord_len]; exact ML.out) NL.out.1).mono ?_
      rintro e w13 ⟨rfl, b13⟩
      rw [HD2.out]
      have R1 : Hid (Reads w13 w8.heap.size 2 A k (C m)) := R1.out.below (b13.mono N9.out)
      have BX := Lib.hid (BX.out.trans (b13.mono BX.out.size))
      have N9 : Hid (w8.heap.size ≤ w13.heap.size) := Nat.le_trans N9.out b13.size
      clear b13 T1 T3
      cases d2 with
      | false =>
        go_wp2_with fail
        go_ret
        exact ⟨rfl, BX.out⟩
      | true =>
        go_wp2_with fail
        refine (rset_any A k c 1 3 m w13 w8.heap.size R1.out NM.out.1 NM.out.2.2.1 N9.out).mono ?_
        rintro e w14 ⟨A9, c9, rfl, o14, b14⟩
        rw [HM3.out] at o14 ⊢
        have R9 := Lib.hid (Reads.of_own o14)
        have R1 : Hid (Reads w14 w8.heap.size 2 A k (C m)) := R1.out.below (b14.mono N9.out)
        have BX := Lib.hid (BX.out.trans (b14.mono BX.out.size))
        have N9 : Hid (w8.heap.size ≤ w14.heap.size) := Nat.le_trans N9.out b14.size
        clear o14 b14
        go_wp2_with fail
        refine (alike_any A9 A m3.length k c9 c m3 m w14 w14.heap.size w8.heap.size R9.out rfl ML.out (Nat.le_refl _) R1.out NM.out.1 NM.out.2.2.1 N9.out).mono ?_
        rintro e w15 ⟨rfl, b15⟩
        rw [HD2.out]
        have BX := Lib.hid (BX.out.trans (b15.mono BX.out.size))
        clear b15
        go_wp2_with fail
        go_ret
        exact ⟨rfl, BX.out⟩
    · have h4I : ¬ (40 : Int) < (len : Int) := by omega
      have h4I' : (40 : Int) < (len' : Int) := by omega
      clear h0 hlen h40 h0' hlen' h41
      go_enter Try.func5, Try.ntmps5
      go_wp2_with fail
      refine SP.out.mono ?_
      rintro e w1 ⟨rfl, b1⟩
      have SP2 := Lib.hid (speaks_any w1)
      have B1 := Lib.hid b1
      clear b1 SP
      go_wp2_with fail
      refine SP2.out.mono ?_
      rintro e w2 ⟨rfl, b2⟩
      have B2 := Lib.hid (B1.out.trans (b2.mono B1.out.size))
      clear b2 SP2
      go_wp2_with fail
      go_ret
      exact ⟨rfl, B2.out⟩
  · have h4I : (40 : Int) < (len : Int) := by omega
    clear h0 hlen h40 h0' hlen'
    go_enter Try.func5, Try.ntmps5
    go_wp2_with fail
    refine SP.out.mono ?_
    rintro e w1 ⟨rfl, b1⟩
    have SP2 := Lib.hid (speaks_any w1)
    have B1 := Lib.hid b1
    clear b1 SP
    go_wp2_with fail
    refine SP2.out.mono ?_
    rintro e w2 ⟨rfl, b2⟩
    have B2 := Lib.hid (B1.out.trans (b2.mono B1.out.size))
    clear b2 SP2
    go_wp2_with fail
    go_ret
    exact ⟨rfl, B2.out⟩
end Go.Proofs.Ytnobfmdjnldfpaa
