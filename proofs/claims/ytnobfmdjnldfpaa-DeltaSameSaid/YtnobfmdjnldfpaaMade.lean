/-
  The contract of DeltaSame's closure. Each statement bears its own conditions.
-/
import Derived.Test.YtnobfmdjnldfpaaPlays
import Derived.Test.YtnobfmdjnldfpaaAlike
namespace Go.Proofs.Ytnobfmdjnldfpaa
open Go.RowKit
set_option linter.unusedVariables false
set_option linter.unusedSimpArgs false
structure MdRel (n g : Nat) (w : World) (v iv : Value) (wr : World) : Prop where
  ex : ∃ (j rb : Nat) (A : Option Addr) (k c : Nat) (m : List (Int × Int)), j ≤ n ∧ v = .slice A k c ∧ iv = .int .i64 (j : Int) ∧ TF wr g rb (ord m) ∧ MR wr w.heap.size g rb A k c m ∧ Dst m ∧ k ≤ j ∧ Below w.heap.size w wr ∧ w.heap.size ≤ g ∧ w.heap.size ≤ rb
set_option maxRecDepth 100000 in
set_option maxHeartbeats 8000000 in
theorem made_any (a : Option Addr) (len cap : Nat) (w : World) (h0 : DeedRow w a len) (hlen : len ≤ 40) :
    Calls Try.prog 23 #[.slice a len cap] w fun e w' => ∃ (g rb : Nat) (A : Option Addr) (k c : Nat) (m : List (Int × Int)), e = .returned (.tuple #[.pointer (some ⟨g, 0, none⟩), .slice A k c]) ∧ TF w' g rb (ord m) ∧ MR w' w.heap.size g rb A k c m ∧ Dst m ∧ k ≤ 40 ∧ Below w.heap.size w w' ∧ w.heap.size ≤ g ∧ w.heap.size ≤ rb := by
  have H0 := Lib.hid h0
  have HN : Hid (len ≤ 40) := hlen
  clear h0 hlen
  go_enter Try.func23, Try.ntmps23
  go_wp2_with fail
  obtain ⟨g, hG⟩ : ∃ g, w.heap.size = g := ⟨_, rfl⟩
  have NE := Lib.hid (new_any w)
  have HG : Hid (w.heap.size ≤ g) := by unfold Hid; omega
  rw [hG] at NE
  refine NE.out.mono ?_
  rintro e w0 ⟨rfl, h0, b0⟩
  have Z0 := Lib.hid h0
  have B0 : Hid (Below w.heap.size w w0) := by unfold Hid; rw [hG]; exact b0
  clear h0 b0 NE hG
  go_wp2_with fail
  go_loopw [5, 11] (fun v i wr => MdRel len g w v i wr) (fun _ i => fun _ => 1001 - (intOf i).toNat)
  case atStart => exact ⟨⟨0, g, none, 0, 0, [], Nat.zero_le _, rfl, rfl, Z0.out, ⟨World.ownsRow_nil _ _ _ _, rfl, fun q e => by cases e⟩, List.nodup_nil, Nat.le_refl _, B0.out, HG.out, HG.out⟩⟩
  case round =>
    clear Z0 B0 HG
    obtain ⟨⟨j, rb, A, k, c, m, hj, rfl, rfl, ht, hm, hd, hkj, hb, hg, hrb⟩⟩ := hrel
    have HT := Lib.hid ht
    have HM := Lib.hid hm
    have HD := Lib.hid hd
    have HB := Lib.hid hb
    have HG := Lib.hid hg
    have HRB := Lib.hid hrb
    have HJ := Lib.hid hj
    have HKJ := Lib.hid hkj
    have HK1 : Hid (k ≤ 1000) := by unfold Hid; have := HN.out; omega
    have HO1 : Hid ((ord m).length ≤ 1000) := by unfold Hid; rw [ord_len, hm.len]; exact HK1.out
    clear ht hm hd hb hg hrb hj hkj
    by_cases hlt : j < len
    · obtain ⟨b, off, Kf, Mf, Tf, rfl, hc⟩ := H0.out (by omega)
      obtain ⟨c0, c1, c2, ⟨kb0, kb1⟩, _⟩ := hc j hlt
      obtain ⟨kj, hkj⟩ : ∃ x, Kf j = x := ⟨_, rfl⟩
      obtain ⟨mj, hmj⟩ : ∃ x, Mf j = x := ⟨_, rfl⟩
      obtain ⟨tj, htj⟩ : ∃ x, Tf j = x := ⟨_, rfl⟩
      rw [hkj] at c0 kb0 kb1
      rw [hmj] at c1
      rw [htj] at c2
      have d0 := cell_later HB.out c0
      have d1 := cell_later HB.out c1
      have d2 := cell_later HB.out c2
      have hjI : (j : Int) < (len : Int) := by omega
      have hj2 : (j : Int) < 1000 := by have := HN.out; omega
      have HX : Hid (j < len) := hlt
      clear hc hkj hmj htj c0 c1 c2 hlt
      have BA : Below wr.heap.size wr (wr.alloc (.cells #[.int .u8 kj, .int .i64 mj, .int .i64 tj] 28)) := (Below.refl _ _).alloc (Nat.le_refl _) _
      have ST0 : Hid (St w g rb A k c m wr.heap.size kj mj tj (wr.alloc (.cells #[.int .u8 kj, .int .i64 mj, .int .i64 tj] 28)) (ord m)) := by
        refine ⟨HT.out.below BA, HM.out.move (fun q hq _ _ => BA.block q hq) (fun q _ a1 a2 => ⟨a1, a2⟩), ⟨?_, ?_, ?_⟩, by have := HT.out.lt; omega, by have := HT.out.rlt; omega, HB.out.trans (BA.mono HB.out.size), HG.out, HRB.out⟩
        · rw [World.cell?_alloc_new]; rfl
        · rw [World.cell?_alloc_new]; rfl
        · rw [World.cell?_alloc_new]; rfl
      clear BA HT HM HB HG HRB
      by_cases s2 : kj % 4 = 2
      · have s2B : (kj % 4 == 2) = true := by rw [beq_iff_eq]; exact s2
        go_wp2_with fail
        refine (drop_any g rb mj (ord m) (wr.alloc (.cells #[.int .u8 kj, .int .i64 mj, .int .i64 tj] 28)) ST0.out.tf HO1.out).mono ?_
        rintro e w7 ⟨rfl, t7, c7⟩
        have ST7 : Hid (St w g rb A k c m wr.heap.size kj mj tj w7 (del (ord m) mj)) := ST0.out.ch c7 t7 (.inl rfl)
        clear t7 c7 d0 d1 d2
        obtain ⟨d0, d1, d2⟩ := ST7.out.db
        go_wp2_with fail
        refine (rdrop_any A k c mj m w7 w7.heap.size ST7.out.mr.reads ST7.out.mr.len HK1.out (Nat.le_refl _)).mono ?_
        rintro e w9 ⟨A9, c9, rfl, o9, b9⟩
        have HD9 : Hid (Dst (cut m mj)) := cut_dst HD.out mj
        have HK9 : Hid ((cut m mj).length ≤ j + 1) := by unfold Hid; have := cut_len m mj; have := ST7.out.mr.len; have := HKJ.out; omega
        have ST9 : Hid (St w g rb A9 (cut m mj).length c9 (cut m mj) wr.heap.size kj mj tj w9 (ord (cut m mj))) := by unfold Hid; rw [ord_cut HD.out]; exact ST7.out.new o9 b9 rfl
        obtain ⟨m9, hm9⟩ : ∃ m9, cut m mj = m9 := ⟨_, rfl⟩
        rw [hm9] at ST9 HD9 HK9 ⊢
        obtain ⟨k9, hk9⟩ : ∃ k9, m9.length = k9 := ⟨_, rfl⟩
        rw [hk9] at ST9 HK9 ⊢
        clear o9 b9 d0 d1 d2 ST0 ST7 hm9 hk9
        go_wp2_with fail
        go_roundw
        case rel =>
          have Q : MdRel len g w (.slice A9 k9 c9) (.int .i64 ((j : Int) + 1)) w9 := ⟨⟨j + 1, rb, A9, k9, c9, m9, HX.out, rfl, by go_num, ST9.out.tf, ST9.out.mr, HD9.out, HK9.out, ST9.out.bel, ST9.out.hg, ST9.out.hrb⟩⟩
          first | exact Q | ((repeat apply Exists.intro); exact ⟨Q, rfl⟩)
        case measure => have := HX.out; have := HN.out; simp [intOf]; omega
      · have s2B : (kj % 4 == 2) = false := by rw [beq_eq_false_iff_ne]; exact s2
        go_wp2_with fail
        refine (set_any g rb mj tj (ord m) (wr.alloc (.cells #[.int .u8 kj, .int .i64 mj, .int .i64 tj] 28)) ST0.out.tf (del_srt (ord_srt m) mj) HO1.out).mono ?_
        rintro e w7 ⟨rb7, rfl, t7, r7, c7⟩
        have ST7 : Hid (St w g rb7 A k c m wr.heap.size kj mj tj w7 (setL (ord m) mj tj)) := ST0.out.ch c7 t7 r7
        clear t7 r7 c7 d0 d1 d2
        obtain ⟨d0, d1, d2⟩ := ST7.out.db
        go_wp2_with fail
        refine (rset_any A k c mj tj m w7 w7.heap.size ST7.out.mr.reads ST7.out.mr.len HK1.out (Nat.le_refl _)).mono ?_
        rintro e w9 ⟨A9, c9, rfl, o9, b9⟩
        have HD9 : Hid (Dst (mset m mj tj)) := mset_dst HD.out mj tj
        have HK9 : Hid ((mset m mj tj).length ≤ j + 1) := by unfold Hid; have := mset_len m mj tj; have := ST7.out.mr.len; have := HKJ.out; omega
        have ST9 : Hid (St w g rb7 A9 (mset m mj tj).length c9 (mset m mj tj) wr.heap.size kj mj tj w9 (ord (mset m mj tj))) := by unfold Hid; rw [ord_mset HD.out]; exact ST7.out.new o9 b9 rfl
        obtain ⟨m9, hm9⟩ : ∃ m9, mset m mj tj = m9 := ⟨_, rfl⟩
        rw [hm9] at ST9 HD9 HK9 ⊢
        obtain ⟨k9, hk9⟩ : ∃ k9, m9.length = k9 := ⟨_, rfl⟩
        rw [hk9] at ST9 HK9 ⊢
        clear o9 b9 d0 d1 d2 ST7 ST0 hm9 hk9
        go_wp2_with fail
        go_roundw
        case rel =>
          have Q : MdRel len g w (.slice A9 k9 c9) (.int .i64 ((j : Int) + 1)) w9 := ⟨⟨j + 1, rb7, A9, k9, c9, m9, HX.out, rfl, by go_num, ST9.out.tf, ST9.out.mr, HD9.out, HK9.out, ST9.out.bel, ST9.out.hg, ST9.out.hrb⟩⟩
          first | exact Q | ((repeat apply Exists.intro); exact ⟨Q, rfl⟩)
        case measure => have := HX.out; have := HN.out; simp [intOf]; omega
    · have hjI : ¬ (j : Int) < (len : Int) := by omega
      clear hlt
      go_wp2_with fail
      go_ret2
      exact ⟨g, rb, A, k, c, rfl, m, HT.out, HM.out, HD.out, by have := HKJ.out; have := HJ.out; have := HN.out; omega, HB.out, HG.out, HRB.out⟩
end Go.Proofs.Ytnobfmdjnldfpaa
