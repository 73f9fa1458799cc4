/-
  BoardPlays's walk. Each statement bears its own conditions.
-/
import Derived.Test.YtfmcmhgpgkeplaaBdN
namespace Go.Proofs.Ytfmcmhgpgkeplaa.B
open Go.RowKit Go.Proofs.Ytfmcmhgpgkeplaa.F Go.Proofs.Ytfmcmhgpgkeplaa.I
set_option linter.unusedVariables false
set_option linter.unusedSimpArgs false
structure PR (lo bw len : Nat) (N : Int) (w : World) (bv iv : Value) (wr : World) : Prop where
  ex : ∃ (j : Nat) (q : Nat → Prop) (g : Nat) (sh : Bool) (M L : List Int) (Am : Option Addr) (cm : Nat) (Al : Option Addr) (cl : Nat), j ≤ len ∧ iv = .int .i64 (j : Int) ∧ bv = .pointer (some ⟨g, 0, none⟩) ∧ PS lo bw wr q g N sh M L Am cm Al cl ∧ L.length ≤ j ∧ Below lo w wr
structure C1 (lo bw a9 j : Nat) (N : Int) (x : AC) (Ak : Option Addr) (nk ck : Nat) (w : World) (bv : Value) (wr : World) : Prop where
  ex : ∃ (q : Nat → Prop) (g : Nat) (sh : Bool) (M L : List Int) (Am : Option Addr) (cm : Nat) (Al : Option Addr) (cl : Nat), bv = .pointer (some ⟨g, 0, none⟩) ∧ PS lo bw wr q g N sh M L Am cm Al cl ∧ AX lo bw a9 wr q x Ak nk ck ∧ L.length ≤ j ∧ Below lo w wr
structure C2 (lo bw j : Nat) (N : Int) (w : World) (bv : Value) (wr : World) : Prop where
  ex : ∃ (q : Nat → Prop) (g : Nat) (sh : Bool) (M L : List Int) (Am : Option Addr) (cm : Nat) (Al : Option Addr) (cl : Nat), bv = .pointer (some ⟨g, 0, none⟩) ∧ PS lo bw wr q g N sh M L Am cm Al cl ∧ L.length ≤ j + 1 ∧ Below lo w wr
set_option maxRecDepth 100000 in
set_option maxHeartbeats 16000000 in
theorem plays_walk (a0 : Int) (a : Option Addr) (len cap : Nat) (m1 : List AC) (w : World) (h1 : Row w 3 (RA w) (.slice a len cap) m1) : Calls Try.prog 3 #[.int .i64 a0, .slice a len cap] w fun e w' => e = .returned (.bool true) ∧ Below w.heap.size w w' := by
  have HR := Lib.hid h1
  clear h1
  by_cases h40 : len ≤ 60
  rotate_left
  · have hq : (60 : Int) < (len : Int) := by omega
    have hqb : decide ((60 : Int) < (len : Int)) = true := by simpa using hq
    have SP := Lib.hid (speaks_any w)
    clear h40
    go_enter Try.func3, Try.ntmps3
    go_wp2_with fail
    refine SP.out.mono ?_
    rintro e w1 ⟨rfl, b1⟩
    have B1 := Lib.hid b1
    clear b1
    go_wp2_with fail
    refine (speaks_any w1).mono ?_
    rintro e w2 ⟨rfl, b2⟩
    have B2 : Hid (Below w.heap.size w w2) := B1.out.trans (b2.mono B1.out.size)
    clear b2
    go_wp2_with fail
    go_ret
    exact ⟨rfl, B2.out⟩

  have H40 : Hid (len ≤ 60) := h40
  have hq : ¬ (60 : Int) < (len : Int) := by omega
  have hqb : decide ((60 : Int) < (len : Int)) = false := by simpa using hq
  have he := he_bd
  have heN : ∀ (w : World), (binOp .eql 24 (.pointer none) (.pointer none)).run Try.prog w = .ok (.bool true) w := fun _ => rfl
  obtain ⟨lo, hlo⟩ : ∃ lo, w.heap.size = lo := ⟨_, rfl⟩
  have SP := Lib.hid (speaks_any w)
  have HLO : Hid (lo ≤ w.heap.size ∧ w.heap.size ≤ lo) := by unfold Hid; omega
  rw [hlo] at SP ⊢
  clear hlo h40
  by_cases hbad : a0 < 1 ∨ 32 < a0
  · have HBAD := Lib.hid hbad
    have t1 : ∃ t, decide (a0 < 1) = t := ⟨_, rfl⟩
    by_cases hb1 : a0 < 1
    · have hb1' : decide (a0 < 1) = true := by simpa using hb1
      clear hbad t1
      go_enter Try.func3, Try.ntmps3
      go_wp2_with fail
      refine SP.out.mono ?_
      rintro e w1 ⟨rfl, b1⟩
      have B1 := Lib.hid b1
      clear b1 SP
      go_wp2_with fail
      refine (new_bad a0 w1 HBAD.out).mono ?_
      rintro e w2 ⟨rfl, hw⟩
      have hw := hw.symm
      subst hw
      go_wp2_with fail
      go_ret
      exact ⟨rfl, B1.out⟩
    · have hb1' : decide (a0 < 1) = false := by simpa using hb1
      have hb2 : 32 < a0 := by omega
      have hb2' : decide (32 < a0) = true := by simpa using hb2
      clear hbad t1
      go_enter Try.func3, Try.ntmps3
      go_wp2_with fail
      refine SP.out.mono ?_
      rintro e w1 ⟨rfl, b1⟩
      have B1 := Lib.hid b1
      clear b1 SP
      go_wp2_with fail
      refine (new_bad a0 w1 HBAD.out).mono ?_
      rintro e w2 ⟨rfl, hw⟩
      have hw := hw.symm
      subst hw
      go_wp2_with fail
      go_ret
      exact ⟨rfl, B1.out⟩
  have hg1 : ¬ a0 < 1 := fun h => hbad (.inl h)
  have hg2 : ¬ 32 < a0 := fun h => hbad (.inr h)
  have hg1' : decide (a0 < 1) = false := by simpa using hg1
  have hg2' : decide (32 < a0) = false := by simpa using hg2
  have HG32 : Hid (1 ≤ a0 ∧ a0 ≤ 32) := by unfold Hid; omega
  clear hbad
  go_enter Try.func3, Try.ntmps3
  go_wp2_with fail
  refine SP.out.mono ?_
  rintro e w1 ⟨rfl, b1⟩
  have B1 := Lib.hid b1
  clear b1 SP
  go_wp2_with fail
  refine (new_any a0 w1 HG32.out.1 HG32.out.2).mono ?_
  rintro e w2 ⟨rfl, q2, b2⟩
  obtain ⟨g, hg⟩ : ∃ g, w1.heap.size = g := ⟨_, rfl⟩
  have HG : Hid (lo ≤ g) := by unfold Hid; have := B1.out.size; have := HLO.out; omega
  rw [hg] at q2 b2
  have Q2 := Lib.hid (q2.less HG.out)
  have B2 : Hid (Below lo w w2) := B1.out.trans (b2.mono HG.out)
  simp only [hg]
  obtain ⟨bw, hbw⟩ : ∃ bw, w2.heap.size = bw := ⟨_, rfl⟩
  have hx : Below w2.heap.size w2 (w2.alloc (.cells #[.int .i64 a0, .slice none 0 0, .bool false, .slice none 0 0] 31)) := (Below.refl _ _).alloc (Nat.le_refl _) _
  have P3 : Hid (PS lo bw (w2.alloc (.cells #[.int .i64 a0, .slice none 0 0, .bool false, .slice none 0 0] 31)) (fun b => b = g) g a0 false [] [] none 0 none 0) := by
    have hgl := Q2.out.lt
    exact ⟨Q2.out.below hx, by rw [← hbw]; exact heap_alloc_new w2 _, Sq.nil _ _, Ow.nil _ _ _, ⟨fun h => by have h : bw = g := h; omega, by have := Q2.out.nil; omega⟩, fun h => by cases h⟩
  have B3 : Hid (Below lo w (w2.alloc (.cells #[.int .i64 a0, .slice none 0 0, .bool false, .slice none 0 0] 31))) := B2.out.trans (hx.mono Q2.out.nil)
  clear q2 b2 B1 hg hx Q2 B2
  go_wp2_with fail
  try simp only [hbw]
  clear hbw
  go_loopw [5, 60] (fun bv iv wr => PR lo bw len a0 w bv iv wr) (fun _ i _ => 61 - (intOf i).toNat)
  case atStart => exact ⟨⟨0, _, g, false, [], [], none, 0, none, 0, Nat.zero_le _, rfl, rfl, P3.out, Nat.le_refl _, B3.out⟩⟩
  case round =>
    obtain ⟨⟨j, q, g, sh, M, L, Am, cm, Al, cl, hj, rfl, rfl, hps, hll, hb⟩⟩ := hrel
    have HB := Lib.hid hb
    have HP := Lib.hid hps
    have HL := Lib.hid hll
    clear hb hps hll
    by_cases hlt : j < len
    · have hjI : (j : Int) < (len : Int) := by omega
      have hj40 : (j : Int) < 60 := by have := H40.out; omega
      have HX : Hid (j < len) := hlt
      have HJ : Hid (j ≤ 60) := by have := H40.out; unfold Hid; omega
      obtain ⟨hlen, b, off, x, cs, hax, hbl, _, hRA, _, hc⟩ := HR.out.at_ j hlt
      clear hlen
      subst hax
      obtain ⟨v', rfl, hxd, hK⟩ := hRA
      have e0 : wr.cell? ⟨b, off + j * 3, none⟩ = some (.int .u8 x.d) := cell_low HB.out (by have := HLO.out; omega) (hc 0 _ rfl)
      have e1 : wr.cell? ⟨b, off + j * 3 + 1, none⟩ = some (.int .i64 x.id) := cell_low HB.out (by have := HLO.out; omega) (hc 1 _ rfl)
      have e2 : wr.cell? ⟨b, off + j * 3 + 2, none⟩ = some v' := cell_low HB.out (by have := HLO.out; omega) (hc 2 _ rfl)
      obtain ⟨Ak, ck, rfl⟩ := hK.form
      have HKS : Hid (Sq wr (fun b => b < lo) (.slice Ak x.m.length ck) x.m.length (CU x.m)) := sq_low (hK.imp fun b _ hb => by have := HLO.out; omega) HB.out
      obtain ⟨nk, hnk⟩ : ∃ nk, x.m.length = nk := ⟨_, rfl⟩
      have HNK : Hid (x.m.length = nk) := hnk
      have HD : Hid (0 ≤ x.d ∧ x.d < 256) := hxd
      rw [hnk] at e2 HKS
      obtain ⟨a9, ha9⟩ : ∃ a9, wr.heap.size = a9 := ⟨_, rfl⟩
      have hx9 : Below wr.heap.size wr (wr.alloc (.cells #[.int .u8 x.d, .int .i64 x.id, .slice Ak nk ck] 33)) := (Below.refl _ _).alloc (Nat.le_refl _) _
      have PA : Hid (PS lo bw (wr.alloc (.cells #[.int .u8 x.d, .int .i64 x.id, .slice Ak nk ck] 33)) q g a0 sh M L Am cm Al cl) := HP.out.below hx9
      have XA : Hid (AX lo bw a9 (wr.alloc (.cells #[.int .u8 x.d, .int .i64 x.id, .slice Ak nk ck] 33)) q x Ak nk ck) := by
        refine ⟨by rw [← ha9]; exact heap_alloc_new wr _, ⟨fun hq => by have := (HP.out.bv.low a9 hq).2; omega, by have := HP.out.bv.nil; omega, by have := HP.out.blt; omega⟩, HKS.out.belowP hx9⟩
      have BA : Hid (Below lo w (wr.alloc (.cells #[.int .u8 x.d, .int .i64 x.id, .slice Ak nk ck] 33))) := HB.out.trans (hx9.mono HP.out.bv.nil)
      clear hc hbl hlt hj hK hnk hxd hx9 HB HP
      by_cases h60 : nk ≤ 60
      rotate_left
      · have hq6 : (60 : Int) < (nk : Int) := by omega
        have hqb6 : decide ((60 : Int) < (nk : Int)) = true := by simpa using hq6
        clear h60
        go_wp2_with fail
        go_ret
        exact ⟨rfl, BA.out⟩
      have hq6 : ¬ (60 : Int) < (nk : Int) := by omega
      have hqb6 : decide ((60 : Int) < (nk : Int)) = false := by simpa using hq6
      clear h60
      go_upto_if 70 with fail
      go_cut [5] (fun bv wx => C1 lo bw a9 j a0 x Ak nk ck w bv wx)
      case first =>
        by_cases h128 : 128 ≤ x.d
        rotate_left
        · have hb128 : decide (128 ≤ x.d) = false := by simpa using h128
          go_wp2_with fail
          go_meet
          case rel => exact ⟨⟨q, g, sh, M, L, Am, cm, Al, cl, rfl, PA.out, XA.out, HL.out, BA.out⟩⟩
        · have hb128 : decide (128 ≤ x.d) = true := by simpa using h128
          have hL := HL.out
          have hJ := HJ.out
          go_wp2_with fail
          refine (clone_any lo q g a0 sh M L _ PA.out.bv (by omega)).mono ?_
          rintro e w4 ⟨g4, q4, rfl, c4, b4⟩
          have C4 := Lib.hid c4
          have P4 := Lib.hid (PA.out.below b4)
          have X4 := Lib.hid (XA.out.below b4)
          have S4 := Lib.hid (PA.out.swap c4 b4)
          have hz4 : wr.heap.size < (wr.alloc (.cells #[.int .u8 x.d, .int .i64 x.id, .slice Ak nk ck] 33)).heap.size := by simp
          have Y4 : Hid (AX lo bw a9 w4 q4 x Ak nk ck) := X4.out.sub fun b hb => by have := (c4.low b hb).1; omega
          have D4 : Hid (∀ b, q b → ¬ q4 b) := fun b hb h => by have := (PA.out.bv.low b hb).2; have := (c4.low b h).1; omega
          have B4 : Hid (Below lo w w4) := BA.out.trans (b4.mono PA.out.bv.nil)
          clear c4 b4 PA XA BA hz4
          have x0 : w4.cell? ⟨a9, 0, none⟩ = some (.int .u8 x.d) := by rw [(row_cell X4.out.bx 0).1]; rfl
          have x1 : w4.cell? ⟨a9, 1, none⟩ = some (.int .i64 x.id) := by rw [(row_cell X4.out.bx 1).1]; rfl
          have x2 : w4.cell? ⟨a9, 2, none⟩ = some (.slice Ak nk ck) := by rw [(row_cell X4.out.bx 2).1]; rfl
          go_wp2_with fail
          refine (same_any _ _ q4 q g4 g a0 a0 sh sh M M L L w4 C4.out P4.out.bv (by omega)).mono ?_
          rintro e w5 ⟨he5, b5⟩
          have he5 : e = .returned (.bool true) := by rw [he5]; simp
          subst he5
          have P5 := Lib.hid (P4.out.below b5)
          have S5 := Lib.hid (S4.out.below b5)
          have Y5 := Lib.hid (Y4.out.below b5)
          have X5 := Lib.hid (X4.out.below b5)
          have B5 : Hid (Below lo w w5) := B4.out.trans (b5.mono P4.out.bv.nil)
          clear b5 P4 S4 Y4 X4 B4 x0 x1 x2
          have x0 : w5.cell? ⟨a9, 0, none⟩ = some (.int .u8 x.d) := by rw [(row_cell X5.out.bx 0).1]; rfl
          have x1 : w5.cell? ⟨a9, 1, none⟩ = some (.int .i64 x.id) := by rw [(row_cell X5.out.bx 1).1]; rfl
          have x2 : w5.cell? ⟨a9, 2, none⟩ = some (.slice Ak nk ck) := by rw [(row_cell X5.out.bx 2).1]; rfl
          go_wp2_with fail
          refine (read_any lo q g a0 sh M L x.id w5 P5.out.bv (by omega)).mono ?_
          rintro e w6 ⟨r, q6, rfl, o6, p6, n6⟩
          have hlow : ∀ b, q b → lo ≤ b := fun b hb => (P5.out.bv.low b hb).1
          have P6 := Lib.hid p6
          have S6 : Hid (PS lo bw w6 q4 g4 a0 sh M L Am cm Al cl) := S5.out.fo n6.fo (fun b hb h => D4.out b h hb) P5.out.nq.1 hlow (fun b hb => (P5.out.ls.at_ b hb).1.2)
          have D6 : Hid (∀ b, q6 b → ¬ q4 b) := fun b hb h => by
            rcases n6.sub b hb with h1 | h1
            · exact D4.out b h1 h
            · have := (S5.out.bv.low b h).2; omega
          have V6 : Hid (∀ b, (Value.slice Al L.length cl).ownBlock = some b → ¬ q6 b) := fun b hb h => by
            rcases n6.sub b h with h1 | h1
            · exact (P5.out.ls.at_ b hb).1.2 h1
            · have := (P5.out.ls.at_ b hb).2; omega
          have E6 : Hid (¬ q6 bw) := fun h => by
            rcases n6.sub bw h with h1 | h1
            · exact P5.out.nq.1 h1
            · have := P5.out.blt; omega
          have X6 := Lib.hid (X5.out.nx n6 hlow)
          have Y6 : Hid (AX lo bw a9 w6 q4 x Ak nk ck) := ⟨X6.out.bx, Y5.out.nq, X6.out.ms⟩
          have B6 : Hid (Below lo w w6) := B5.out.trans (P5.out.bv.nx n6)
          clear o6 p6 n6 P5 S5 Y5 X5 B5 x0 x1 x2 hlow
          have hx7 : Below w6.heap.size w6 (w6.alloc (.cells #[.int .u32 7] 40)) := (Below.refl _ _).alloc (Nat.le_refl _) _
          have L7 := Lib.hid (Sq.lit w6 #[.int .u32 7] 40 1 1 rfl)
          have P7 := Lib.hid (P6.out.below hx7)
          have S7 := Lib.hid (S6.out.below hx7)
          have X7 := Lib.hid (X6.out.below hx7)
          have Y7 := Lib.hid (Y6.out.below hx7)
          have B7 : Hid (Below lo w (w6.alloc (.cells #[.int .u32 7] 40))) := B6.out.trans (hx7.mono P6.out.nil)
          clear hx7 P6 S6 X6 Y6 B6
          obtain ⟨W7, hW7⟩ : ∃ W7, w6.alloc (.cells #[.int .u32 7] 40) = W7 := ⟨_, rfl⟩
          rw [hW7] at L7 P7 S7 X7 Y7 B7
          go_wp2_with fail
          refine (show_any lo q6 g a0 sh M (readL sh L x.id) _ _ [7] W7 P7.out L7.out (by have := HG32.out; simp; omega)).mono ?_
          rintro e w8 ⟨r8, q8, rfl, o8, p8, n8⟩
          have hlow : ∀ b, q6 b → lo ≤ b := fun b hb => (P7.out.low b hb).1
          have S8 : Hid (PS lo bw w8 q4 g4 a0 sh M L Am cm Al cl) := S7.out.fo n8.fo (fun b hb h => D6.out b h hb) E6.out hlow V6.out
          have Y8 : Hid (AX lo bw a9 w8 q4 x Ak nk ck) := ⟨((X7.out.nx n8 hlow)).bx, Y7.out.nq, ((X7.out.nx n8 hlow)).ms⟩
          have B8 : Hid (Below lo w w8) := B7.out.trans (P7.out.nx n8)
          clear o8 p8 n8 P7 S7 X7 Y7 B7 L7 hlow hW7
          go_wp2_with fail
          go_meet
          case rel => exact ⟨⟨q4, g4, sh, M, L, Am, cm, Al, cl, rfl, S8.out, Y8.out, HL.out, B8.out⟩⟩
      case rest =>
        obtain ⟨⟨q, g, sh, M, L, Am, cm, Al, cl, rfl, hps, hax, hll, hb⟩⟩ := hcut
        have PA := Lib.hid hps
        have XA := Lib.hid hax
        have HL := Lib.hid hll
        have BA := Lib.hid hb
        clear hps hax hll hb
        have x0 : wc.cell? ⟨a9, 0, none⟩ = some (.int .u8 x.d) := by rw [(row_cell XA.out.bx 0).1]; rfl
        have x1 : wc.cell? ⟨a9, 1, none⟩ = some (.int .i64 x.id) := by rw [(row_cell XA.out.bx 1).1]; rfl
        have x2 : wc.cell? ⟨a9, 2, none⟩ = some (.slice Ak nk ck) := by rw [(row_cell XA.out.bx 2).1]; rfl
        have y0 : wc.cell? ⟨bw, 0, none⟩ = some (.int .i64 a0) := by rw [(row_cell PA.out.bx 0).1]; rfl
        have yf0 : wc.frozen? ⟨bw, 0, none⟩ = false := (row_cell PA.out.bx 0).2
        have y1 : wc.cell? ⟨bw, 1, none⟩ = some (.slice Am M.length cm) := by rw [(row_cell PA.out.bx 1).1]; rfl
        have yf1 : wc.frozen? ⟨bw, 1, none⟩ = false := (row_cell PA.out.bx 1).2
        have y2 : wc.cell? ⟨bw, 2, none⟩ = some (.bool sh) := by rw [(row_cell PA.out.bx 2).1]; rfl
        have yf2 : wc.frozen? ⟨bw, 2, none⟩ = false := (row_cell PA.out.bx 2).2
        have y3 : wc.cell? ⟨bw, 3, none⟩ = some (.slice Al L.length cl) := by rw [(row_cell PA.out.bx 3).1]; rfl
        have yf3 : wc.frozen? ⟨bw, 3, none⟩ = false := (row_cell PA.out.bx 3).2
        go_upto_block 2 with fail
        go_cut [5] (fun bv wx => C2 lo bw j a0 w bv wx)
        case first =>
          by_cases h0 : x.d.tmod 8 = 0
          · have hb0 : (x.d.tmod 8 == 0) = true := by rw [beq_iff_eq]; exact h0
            clear h0
            by_cases hfit : (nk : Int) ≤ a0
            · skip
              have hm : Sq wc (fun b => b < lo) (.slice Ak nk ck) x.m.length (CU x.m) := by rw [HNK.out]; exact XA.out.ms
              have hlow : ∀ b, q b → lo ≤ b := fun b hb => (PA.out.bv.low b hb).1
              go_wp2_with fail
              refine (show_any lo q g a0 sh M L _ _ x.m wc PA.out.bv hm (by rw [HNK.out]; exact hfit)).mono ?_
              rintro e w4 ⟨r, q4, rfl, o4, p4, n4⟩
              obtain ⟨A4, c4, rfl⟩ := o4.sl
              have P4 := Lib.hid p4
              have O4 := Lib.hid o4
              have B4 : Hid (Below lo w w4) := BA.out.trans (PA.out.bv.nx n4)
              have L4 := Lib.hid (PA.out.ls.nx n4)
              have X4 := Lib.hid (XA.out.nx n4 hlow)
              have E4 : Hid (¬ q4 bw) := fun h => by
                rcases n4.sub bw h with h1 | h1
                · exact PA.out.nq.1 h1
                · have := PA.out.blt; omega
              have Z4 := Lib.hid ((n4.fo.block bw PA.out.blt PA.out.nq.1).trans PA.out.bx)
              clear p4 n4 o4 hlow hm x0 x1 x2 y0 y1 y2 y3 yf0 yf1 yf2 yf3
              have x0 : w4.cell? ⟨a9, 0, none⟩ = some (.int .u8 x.d) := by rw [(row_cell X4.out.bx 0).1]; rfl
              have x1 : w4.cell? ⟨a9, 1, none⟩ = some (.int .i64 x.id) := by rw [(row_cell X4.out.bx 1).1]; rfl
              have x2 : w4.cell? ⟨a9, 2, none⟩ = some (.slice Ak nk ck) := by rw [(row_cell X4.out.bx 2).1]; rfl
              have y0 : w4.cell? ⟨bw, 0, none⟩ = some (.int .i64 a0) := by rw [(row_cell Z4.out 0).1]; rfl
              have yf0 : w4.frozen? ⟨bw, 0, none⟩ = false := (row_cell Z4.out 0).2
              have y1 : w4.cell? ⟨bw, 1, none⟩ = some (.slice Am M.length cm) := by rw [(row_cell Z4.out 1).1]; rfl
              have yf1 : w4.frozen? ⟨bw, 1, none⟩ = false := (row_cell Z4.out 1).2
              have y2 : w4.cell? ⟨bw, 2, none⟩ = some (.bool sh) := by rw [(row_cell Z4.out 2).1]; rfl
              have yf2 : w4.frozen? ⟨bw, 2, none⟩ = false := (row_cell Z4.out 2).2
              have y3 : w4.cell? ⟨bw, 3, none⟩ = some (.slice Al L.length cl) := by rw [(row_cell Z4.out 3).1]; rfl
              have yf3 : w4.frozen? ⟨bw, 3, none⟩ = false := (row_cell Z4.out 3).2
              go_wp2_with fail
              refine (rshow_ok a0 Am M.length cm Al L.length cl sh Ak nk ck w4 hfit).mono ?_
              rintro e w5 ⟨rfl, b5⟩
              obtain ⟨b13, hb13⟩ : ∃ b13, w5.heap.size = b13 := ⟨_, rfl⟩
              have b6 : Below w4.heap.size w4 (w5.alloc (.cells #[.int .i64 a0, .slice Ak nk ck, .bool true, .slice none 0 0] 31)) := b5.alloc b5.size _
              have Z13 : Hid ((w5.alloc (.cells #[.int .i64 a0, .slice Ak nk ck, .bool true, .slice none 0 0] 31)).heap[b13]? = some (.cells #[.int .i64 a0, .slice Ak nk ck, .bool true, .slice none 0 0] 31 (0, 0))) := by rw [← hb13]; exact heap_alloc_new w5 _
              clear x0 x1 x2 y0 y1 y2 y3 yf0 yf1 yf2 yf3
              go_wp2_with fail
              obtain ⟨W6, hW6⟩ : ∃ W6, w5.alloc (.cells #[.int .i64 a0, .slice Ak nk ck, .bool true, .slice none 0 0] 31) = W6 := ⟨_, rfl⟩
              rw [hW6] at b6 Z13
              rw [hW6]
              have P6 := Lib.hid (P4.out.below b6)
              have O6 := Lib.hid (O4.out.below b6)
              have L6 := Lib.hid (L4.out.below b6)
              have X6 := Lib.hid (X4.out.below b6)
              have Z6 := Lib.hid ((b6.block bw (Array.getElem?_eq_some_iff.1 Z4.out).1).trans Z4.out)
              have B6 : Hid (Below lo w W6) := B4.out.trans (b6.mono P4.out.nil)
              have EQ := Lib.hid (iequal_same _ _ _ _ L W6 O6.out.sq.st L6.out.sq.st (by have := HL.out; have := HJ.out; omega))
              clear b5 b6 P4 O4 L4 X4 Z4 B4
              refine EQ.out.mono ?_
              rintro e w7 ⟨rfl, b7⟩
              have P7 := Lib.hid (P6.out.below b7)
              have Z7 := Lib.hid ((b7.block bw (Array.getElem?_eq_some_iff.1 Z6.out).1).trans Z6.out)
              have Y7 := Lib.hid ((b7.block b13 (Array.getElem?_eq_some_iff.1 Z13.out).1).trans Z13.out)
              have M7 := Lib.hid (X6.out.ms.belowP b7)
              have B7 : Hid (Below lo w w7) := B6.out.trans (b7.mono P6.out.nil)
              clear b7 EQ P6 O6 L6 X6 Z6 B6 Z13 hW6 hb13
              have y0 : w7.cell? ⟨bw, 0, none⟩ = some (.int .i64 a0) := by rw [(row_cell Z7.out 0).1]; rfl
              have yf0 : w7.frozen? ⟨bw, 0, none⟩ = false := (row_cell Z7.out 0).2
              have y1 : w7.cell? ⟨bw, 1, none⟩ = some (.slice Am M.length cm) := by rw [(row_cell Z7.out 1).1]; rfl
              have yf1 : w7.frozen? ⟨bw, 1, none⟩ = false := (row_cell Z7.out 1).2
              have y2 : w7.cell? ⟨bw, 2, none⟩ = some (.bool sh) := by rw [(row_cell Z7.out 2).1]; rfl
              have yf2 : w7.frozen? ⟨bw, 2, none⟩ = false := (row_cell Z7.out 2).2
              have y3 : w7.cell? ⟨bw, 3, none⟩ = some (.slice Al L.length cl) := by rw [(row_cell Z7.out 3).1]; rfl
              have yf3 : w7.frozen? ⟨bw, 3, none⟩ = false := (row_cell Z7.out 3).2
              have z0 : w7.cell? ⟨b13, 0, none⟩ = some (.int .i64 a0) := by rw [(row_cell Y7.out 0).1]; rfl
              have z1 : w7.cell? ⟨b13, 1, none⟩ = some (.slice Ak nk ck) := by rw [(row_cell Y7.out 1).1]; rfl
              have z2 : w7.cell? ⟨b13, 2, none⟩ = some (.bool true) := by rw [(row_cell Y7.out 2).1]; rfl
              have z3 : w7.cell? ⟨b13, 3, none⟩ = some (.slice none 0 0) := by rw [(row_cell Y7.out 3).1]; rfl
              have Q := PS.put (M := x.m) (Am := Ak) (cm := ck) (Al := none) (cl := 0) (sh := true) P7.out Z7.out (by rw [HNK.out]; exact M7.out) (Ow.nil _ _ _) ⟨E4.out, PA.out.nq.2⟩ (fun _ => rfl)
              rw [HNK.out] at Q
              have Q1 := Lib.hid Q.1
              have Q2 : Hid (Below lo w _) := B7.out.trans Q.2
              clear Q Z7 P7 Y7 M7 B7
              go_wp2_with fail
              go_meet
              case rel => exact ⟨⟨q4, g, true, x.m, [], Ak, ck, none, 0, rfl, Q1.out, Nat.zero_le _, Q2.out⟩⟩
            · skip
              have hm : Sq wc (fun b => b < lo) (.slice Ak nk ck) x.m.length (CU x.m) := by rw [HNK.out]; exact XA.out.ms
              have hlow : ∀ b, q b → lo ≤ b := fun b hb => (PA.out.bv.low b hb).1
              go_wp2_with fail
              refine (show_big lo q g a0 sh M L _ _ x.m wc PA.out.bv hm (by rw [HNK.out]; omega)).mono ?_
              rintro e w4 ⟨rfl, hw⟩
              have hw := hw.symm
              subst hw
              clear hlow hm
              go_wp2_with fail
              refine (rshow_big a0 Am M.length cm Al L.length cl sh Ak nk ck wc (by omega)).mono ?_
              rintro e w5 ⟨rfl, b5⟩
              obtain ⟨b13, hb13⟩ : ∃ b13, w5.heap.size = b13 := ⟨_, rfl⟩
              have b6 : Below wc.heap.size wc (w5.alloc (.cells #[.int .i64 a0, .slice Am M.length cm, .bool sh, .slice Al L.length cl] 31)) := b5.alloc b5.size _
              have Z13 : Hid ((w5.alloc (.cells #[.int .i64 a0, .slice Am M.length cm, .bool sh, .slice Al L.length cl] 31)).heap[b13]? = some (.cells #[.int .i64 a0, .slice Am M.length cm, .bool sh, .slice Al L.length cl] 31 (0, 0))) := by rw [← hb13]; exact heap_alloc_new w5 _
              obtain ⟨W6, hW6⟩ : ∃ W6, w5.alloc (.cells #[.int .i64 a0, .slice Am M.length cm, .bool sh, .slice Al L.length cl] 31) = W6 := ⟨_, rfl⟩
              rw [hW6] at b6 Z13
              have P6 := Lib.hid (PA.out.below b6)
              have B6 : Hid (Below lo w W6) := BA.out.trans (b6.mono PA.out.bv.nil)
              have EQ := Lib.hid (iequal_same 0 0 (.slice none 0 0) (.slice none 0 0) [] W6 St.nil St.nil (by simp))
              clear b5 b6 x0 x1 x2 y0 y1 y2 y3 yf0 yf1 yf2 yf3
              go_wp2_with fail
              refine EQ.out.mono ?_
              rintro e w7 ⟨rfl, b7⟩
              have P7 := Lib.hid (P6.out.below b7)
              have Y7 := Lib.hid ((b7.block b13 (Array.getElem?_eq_some_iff.1 Z13.out).1).trans Z13.out)
              have B7 : Hid (Below lo w w7) := B6.out.trans (b7.mono P6.out.bv.nil)
              clear b7 EQ P6 B6 Z13 hW6 hb13
              have y0 : w7.cell? ⟨bw, 0, none⟩ = some (.int .i64 a0) := by rw [(row_cell P7.out.bx 0).1]; rfl
              have yf0 : w7.frozen? ⟨bw, 0, none⟩ = false := (row_cell P7.out.bx 0).2
              have y1 : w7.cell? ⟨bw, 1, none⟩ = some (.slice Am M.length cm) := by rw [(row_cell P7.out.bx 1).1]; rfl
              have yf1 : w7.frozen? ⟨bw, 1, none⟩ = false := (row_cell P7.out.bx 1).2
              have y2 : w7.cell? ⟨bw, 2, none⟩ = some (.bool sh) := by rw [(row_cell P7.out.bx 2).1]; rfl
              have yf2 : w7.frozen? ⟨bw, 2, none⟩ = false := (row_cell P7.out.bx 2).2
              have y3 : w7.cell? ⟨bw, 3, none⟩ = some (.slice Al L.length cl) := by rw [(row_cell P7.out.bx 3).1]; rfl
              have yf3 : w7.frozen? ⟨bw, 3, none⟩ = false := (row_cell P7.out.bx 3).2
              have z0 : w7.cell? ⟨b13, 0, none⟩ = some (.int .i64 a0) := by rw [(row_cell Y7.out 0).1]; rfl
              have z1 : w7.cell? ⟨b13, 1, none⟩ = some (.slice Am M.length cm) := by rw [(row_cell Y7.out 1).1]; rfl
              have z2 : w7.cell? ⟨b13, 2, none⟩ = some (.bool sh) := by rw [(row_cell Y7.out 2).1]; rfl
              have z3 : w7.cell? ⟨b13, 3, none⟩ = some (.slice Al L.length cl) := by rw [(row_cell Y7.out 3).1]; rfl
              have Q := PS.put P7.out.bv P7.out.bx P7.out.ms P7.out.ls P7.out.nq P7.out.nu
              have Q1 := Lib.hid Q.1
              have Q2 : Hid (Below lo w _) := B7.out.trans Q.2
              clear Q P7 Y7 B7
              go_wp2_with fail
              go_meet
              case rel => exact ⟨⟨q, g, sh, M, L, Am, cm, Al, cl, rfl, Q1.out, Nat.le_succ_of_le HL.out, Q2.out⟩⟩
          have hb0 : (x.d.tmod 8 == 0) = false := by rw [beq_eq_false_iff_ne]; exact h0
          by_cases h1 : x.d.tmod 8 = 1
          · have hb1 : (x.d.tmod 8 == 1) = true := by rw [beq_iff_eq]; exact h1
            clear h1
            clear h0
            by_cases hfit : (nk : Int) ≤ a0
            · skip
              have hm : Sq wc (fun b => b < lo) (.slice Ak nk ck) x.m.length (CU x.m) := by rw [HNK.out]; exact XA.out.ms
              have hlow : ∀ b, q b → lo ≤ b := fun b hb => (PA.out.bv.low b hb).1
              go_wp2_with fail
              refine (show_any lo q g a0 sh M L _ _ x.m wc PA.out.bv hm (by rw [HNK.out]; exact hfit)).mono ?_
              rintro e w4 ⟨r, q4, rfl, o4, p4, n4⟩
              obtain ⟨A4, c4, rfl⟩ := o4.sl
              have P4 := Lib.hid p4
              have O4 := Lib.hid o4
              have B4 : Hid (Below lo w w4) := BA.out.trans (PA.out.bv.nx n4)
              have L4 := Lib.hid (PA.out.ls.nx n4)
              have X4 := Lib.hid (XA.out.nx n4 hlow)
              have E4 : Hid (¬ q4 bw) := fun h => by
                rcases n4.sub bw h with h1 | h1
                · exact PA.out.nq.1 h1
                · have := PA.out.blt; omega
              have Z4 := Lib.hid ((n4.fo.block bw PA.out.blt PA.out.nq.1).trans PA.out.bx)
              clear p4 n4 o4 hlow hm x0 x1 x2 y0 y1 y2 y3 yf0 yf1 yf2 yf3
              have x0 : w4.cell? ⟨a9, 0, none⟩ = some (.int .u8 x.d) := by rw [(row_cell X4.out.bx 0).1]; rfl
              have x1 : w4.cell? ⟨a9, 1, none⟩ = some (.int .i64 x.id) := by rw [(row_cell X4.out.bx 1).1]; rfl
              have x2 : w4.cell? ⟨a9, 2, none⟩ = some (.slice Ak nk ck) := by rw [(row_cell X4.out.bx 2).1]; rfl
              have y0 : w4.cell? ⟨bw, 0, none⟩ = some (.int .i64 a0) := by rw [(row_cell Z4.out 0).1]; rfl
              have yf0 : w4.frozen? ⟨bw, 0, none⟩ = false := (row_cell Z4.out 0).2
              have y1 : w4.cell? ⟨bw, 1, none⟩ = some (.slice Am M.length cm) := by rw [(row_cell Z4.out 1).1]; rfl
              have yf1 : w4.frozen? ⟨bw, 1, none⟩ = false := (row_cell Z4.out 1).2
              have y2 : w4.cell? ⟨bw, 2, none⟩ = some (.bool sh) := by rw [(row_cell Z4.out 2).1]; rfl
              have yf2 : w4.frozen? ⟨bw, 2, none⟩ = false := (row_cell Z4.out 2).2
              have y3 : w4.cell? ⟨bw, 3, none⟩ = some (.slice Al L.length cl) := by rw [(row_cell Z4.out 3).1]; rfl
              have yf3 : w4.frozen? ⟨bw, 3, none⟩ = false := (row_cell Z4.out 3).2
              go_wp2_with fail
              refine (rshow_ok a0 Am M.length cm Al L.length cl sh Ak nk ck w4 hfit).mono ?_
              rintro e w5 ⟨rfl, b5⟩
              obtain ⟨b13, hb13⟩ : ∃ b13, w5.heap.size = b13 := ⟨_, rfl⟩
              have b6 : Below w4.heap.size w4 (w5.alloc (.cells #[.int .i64 a0, .slice Ak nk ck, .bool true, .slice none 0 0] 31)) := b5.alloc b5.size _
              have Z13 : Hid ((w5.alloc (.cells #[.int .i64 a0, .slice Ak nk ck, .bool true, .slice none 0 0] 31)).heap[b13]? = some (.cells #[.int .i64 a0, .slice Ak nk ck, .bool true, .slice none 0 0] 31 (0, 0))) := by rw [← hb13]; exact heap_alloc_new w5 _
              clear x0 x1 x2 y0 y1 y2 y3 yf0 yf1 yf2 yf3
              go_wp2_with fail
              obtain ⟨W6, hW6⟩ : ∃ W6, w5.alloc (.cells #[.int .i64 a0, .slice Ak nk ck, .bool true, .slice none 0 0] 31) = W6 := ⟨_, rfl⟩
              rw [hW6] at b6 Z13
              rw [hW6]
              have P6 := Lib.hid (P4.out.below b6)
              have O6 := Lib.hid (O4.out.below b6)
              have L6 := Lib.hid (L4.out.below b6)
              have X6 := Lib.hid (X4.out.below b6)
              have Z6 := Lib.hid ((b6.block bw (Array.getElem?_eq_some_iff.1 Z4.out).1).trans Z4.out)
              have B6 : Hid (Below lo w W6) := B4.out.trans (b6.mono P4.out.nil)
              have EQ := Lib.hid (iequal_same _ _ _ _ L W6 O6.out.sq.st L6.out.sq.st (by have := HL.out; have := HJ.out; omega))
              clear b5 b6 P4 O4 L4 X4 Z4 B4
              refine EQ.out.mono ?_
              rintro e w7 ⟨rfl, b7⟩
              have P7 := Lib.hid (P6.out.below b7)
              have Z7 := Lib.hid ((b7.block bw (Array.getElem?_eq_some_iff.1 Z6.out).1).trans Z6.out)
              have Y7 := Lib.hid ((b7.block b13 (Array.getElem?_eq_some_iff.1 Z13.out).1).trans Z13.out)
              have M7 := Lib.hid (X6.out.ms.belowP b7)
              have B7 : Hid (Below lo w w7) := B6.out.trans (b7.mono P6.out.nil)
              clear b7 EQ P6 O6 L6 X6 Z6 B6 Z13 hW6 hb13
              have y0 : w7.cell? ⟨bw, 0, none⟩ = some (.int .i64 a0) := by rw [(row_cell Z7.out 0).1]; rfl
              have yf0 : w7.frozen? ⟨bw, 0, none⟩ = false := (row_cell Z7.out 0).2
              have y1 : w7.cell? ⟨bw, 1, none⟩ = some (.slice Am M.length cm) := by rw [(row_cell Z7.out 1).1]; rfl
              have yf1 : w7.frozen? ⟨bw, 1, none⟩ = false := (row_cell Z7.out 1).2
              have y2 : w7.cell? ⟨bw, 2, none⟩ = some (.bool sh) := by rw [(row_cell Z7.out 2).1]; rfl
              have yf2 : w7.frozen? ⟨bw, 2, none⟩ = false := (row_cell Z7.out 2).2
              have y3 : w7.cell? ⟨bw, 3, none⟩ = some (.slice Al L.length cl) := by rw [(row_cell Z7.out 3).1]; rfl
              have yf3 : w7.frozen? ⟨bw, 3, none⟩ = false := (row_cell Z7.out 3).2
              have z0 : w7.cell? ⟨b13, 0, none⟩ = some (.int .i64 a0) := by rw [(row_cell Y7.out 0).1]; rfl
              have z1 : w7.cell? ⟨b13, 1, none⟩ = some (.slice Ak nk ck) := by rw [(row_cell Y7.out 1).1]; rfl
              have z2 : w7.cell? ⟨b13, 2, none⟩ = some (.bool true) := by rw [(row_cell Y7.out 2).1]; rfl
              have z3 : w7.cell? ⟨b13, 3, none⟩ = some (.slice none 0 0) := by rw [(row_cell Y7.out 3).1]; rfl
              have Q := PS.put (M := x.m) (Am := Ak) (cm := ck) (Al := none) (cl := 0) (sh := true) P7.out Z7.out (by rw [HNK.out]; exact M7.out) (Ow.nil _ _ _) ⟨E4.out, PA.out.nq.2⟩ (fun _ => rfl)
              rw [HNK.out] at Q
              have Q1 := Lib.hid Q.1
              have Q2 : Hid (Below lo w _) := B7.out.trans Q.2
              clear Q Z7 P7 Y7 M7 B7
              go_wp2_with fail
              go_meet
              case rel => exact ⟨⟨q4, g, true, x.m, [], Ak, ck, none, 0, rfl, Q1.out, Nat.zero_le _, Q2.out⟩⟩
            · skip
              have hm : Sq wc (fun b => b < lo) (.slice Ak nk ck) x.m.length (CU x.m) := by rw [HNK.out]; exact XA.out.ms
              have hlow : ∀ b, q b → lo ≤ b := fun b hb => (PA.out.bv.low b hb).1
              go_wp2_with fail
              refine (show_big lo q g a0 sh M L _ _ x.m wc PA.out.bv hm (by rw [HNK.out]; omega)).mono ?_
              rintro e w4 ⟨rfl, hw⟩
              have hw := hw.symm
              subst hw
              clear hlow hm
              go_wp2_with fail
              refine (rshow_big a0 Am M.length cm Al L.length cl sh Ak nk ck wc (by omega)).mono ?_
              rintro e w5 ⟨rfl, b5⟩
              obtain ⟨b13, hb13⟩ : ∃ b13, w5.heap.size = b13 := ⟨_, rfl⟩
              have b6 : Below wc.heap.size wc (w5.alloc (.cells #[.int .i64 a0, .slice Am M.length cm, .bool sh, .slice Al L.length cl] 31)) := b5.alloc b5.size _
              have Z13 : Hid ((w5.alloc (.cells #[.int .i64 a0, .slice Am M.length cm, .bool sh, .slice Al L.length cl] 31)).heap[b13]? = some (.cells #[.int .i64 a0, .slice Am M.length cm, .bool sh, .slice Al L.length cl] 31 (0, 0))) := by rw [← hb13]; exact heap_alloc_new w5 _
              obtain ⟨W6, hW6⟩ : ∃ W6, w5.alloc (.cells #[.int .i64 a0, .slice Am M.length cm, .bool sh, .slice Al L.length cl] 31) = W6 := ⟨_, rfl⟩
              rw [hW6] at b6 Z13
              have P6 := Lib.hid (PA.out.below b6)
              have B6 : Hid (Below lo w W6) := BA.out.trans (b6.mono PA.out.bv.nil)
              have EQ := Lib.hid (iequal_same 0 0 (.slice none 0 0) (.slice none 0 0) [] W6 St.nil St.nil (by simp))
              clear b5 b6 x0 x1 x2 y0 y1 y2 y3 yf0 yf1 yf2 yf3
              go_wp2_with fail
              refine EQ.out.mono ?_
              rintro e w7 ⟨rfl, b7⟩
              have P7 := Lib.hid (P6.out.below b7)
              have Y7 := Lib.hid ((b7.block b13 (Array.getElem?_eq_some_iff.1 Z13.out).1).trans Z13.out)
              have B7 : Hid (Below lo w w7) := B6.out.trans (b7.mono P6.out.bv.nil)
              clear b7 EQ P6 B6 Z13 hW6 hb13
              have y0 : w7.cell? ⟨bw, 0, none⟩ = some (.int .i64 a0) := by rw [(row_cell P7.out.bx 0).1]; rfl
              have yf0 : w7.frozen? ⟨bw, 0, none⟩ = false := (row_cell P7.out.bx 0).2
              have y1 : w7.cell? ⟨bw, 1, none⟩ = some (.slice Am M.length cm) := by rw [(row_cell P7.out.bx 1).1]; rfl
              have yf1 : w7.frozen? ⟨bw, 1, none⟩ = false := (row_cell P7.out.bx 1).2
              have y2 : w7.cell? ⟨bw, 2, none⟩ = some (.bool sh) := by rw [(row_cell P7.out.bx 2).1]; rfl
              have yf2 : w7.frozen? ⟨bw, 2, none⟩ = false := (row_cell P7.out.bx 2).2
              have y3 : w7.cell? ⟨bw, 3, none⟩ = some (.slice Al L.length cl) := by rw [(row_cell P7.out.bx 3).1]; rfl
              have yf3 : w7.frozen? ⟨bw, 3, none⟩ = false := (row_cell P7.out.bx 3).2
              have z0 : w7.cell? ⟨b13, 0, none⟩ = some (.int .i64 a0) := by rw [(row_cell Y7.out 0).1]; rfl
              have z1 : w7.cell? ⟨b13, 1, none⟩ = some (.slice Am M.length cm) := by rw [(row_cell Y7.out 1).1]; rfl
              have z2 : w7.cell? ⟨b13, 2, none⟩ = some (.bool sh) := by rw [(row_cell Y7.out 2).1]; rfl
              have z3 : w7.cell? ⟨b13, 3, none⟩ = some (.slice Al L.length cl) := by rw [(row_cell Y7.out 3).1]; rfl
              have Q := PS.put P7.out.bv P7.out.bx P7.out.ms P7.out.ls P7.out.nq P7.out.nu
              have Q1 := Lib.hid Q.1
              have Q2 : Hid (Below lo w _) := B7.out.trans Q.2
              clear Q P7 Y7 B7
              go_wp2_with fail
              go_meet
              case rel => exact ⟨⟨q, g, sh, M, L, Am, cm, Al, cl, rfl, Q1.out, Nat.le_succ_of_le HL.out, Q2.out⟩⟩
          have hb1 : (x.d.tmod 8 == 1) = false := by rw [beq_eq_false_iff_ne]; exact h1
          clear h0 h1
          by_cases h2 : x.d.tmod 8 = 2
          · have hb2 : (x.d.tmod 8 == 2) = true := by rw [beq_iff_eq]; exact h2
            clear h2
            go_wp2_with fail
            refine (clear_any lo q g a0 sh M L wc PA.out.bv).mono ?_
            rintro e w4 ⟨rfl, p4, n4⟩
            have hlow : ∀ b, q b → lo ≤ b := fun b hb => (PA.out.bv.low b hb).1
            have P4 := Lib.hid p4
            have B4 : Hid (Below lo w w4) := BA.out.trans (PA.out.bv.nx n4)
            have L4 := Lib.hid (PA.out.ls.nx n4)
            have Z4 := Lib.hid ((n4.fo.block bw PA.out.blt PA.out.nq.1).trans PA.out.bx)
            clear p4 n4 hlow x0 x1 x2 y0 y1 y2 y3 yf0 yf1 yf2 yf3
            have y0 : w4.cell? ⟨bw, 0, none⟩ = some (.int .i64 a0) := by rw [(row_cell Z4.out 0).1]; rfl
            have yf0 : w4.frozen? ⟨bw, 0, none⟩ = false := (row_cell Z4.out 0).2
            have y1 : w4.cell? ⟨bw, 1, none⟩ = some (.slice Am M.length cm) := by rw [(row_cell Z4.out 1).1]; rfl
            have yf1 : w4.frozen? ⟨bw, 1, none⟩ = false := (row_cell Z4.out 1).2
            have y2 : w4.cell? ⟨bw, 2, none⟩ = some (.bool sh) := by rw [(row_cell Z4.out 2).1]; rfl
            have yf2 : w4.frozen? ⟨bw, 2, none⟩ = false := (row_cell Z4.out 2).2
            have y3 : w4.cell? ⟨bw, 3, none⟩ = some (.slice Al L.length cl) := by rw [(row_cell Z4.out 3).1]; rfl
            have yf3 : w4.frozen? ⟨bw, 3, none⟩ = false := (row_cell Z4.out 3).2
            go_wp2_with fail
            refine (rclear_any a0 Am M.length cm Al L.length cl sh w4).mono ?_
            rintro e w5 ⟨rfl, b5⟩
            have P5 := Lib.hid (P4.out.below b5)
            have L5 := Lib.hid (L4.out.below b5)
            have Z5 := Lib.hid ((b5.block bw (Array.getElem?_eq_some_iff.1 Z4.out).1).trans Z4.out)
            have B5 : Hid (Below lo w w5) := B4.out.trans (b5.mono P4.out.nil)
            clear b5 P4 L4 Z4 B4 y0 y1 y2 y3 yf0 yf1 yf2 yf3
            have y0 : w5.cell? ⟨bw, 0, none⟩ = some (.int .i64 a0) := by rw [(row_cell Z5.out 0).1]; rfl
            have yf0 : w5.frozen? ⟨bw, 0, none⟩ = false := (row_cell Z5.out 0).2
            have y1 : w5.cell? ⟨bw, 1, none⟩ = some (.slice Am M.length cm) := by rw [(row_cell Z5.out 1).1]; rfl
            have yf1 : w5.frozen? ⟨bw, 1, none⟩ = false := (row_cell Z5.out 1).2
            have y2 : w5.cell? ⟨bw, 2, none⟩ = some (.bool sh) := by rw [(row_cell Z5.out 2).1]; rfl
            have yf2 : w5.frozen? ⟨bw, 2, none⟩ = false := (row_cell Z5.out 2).2
            have y3 : w5.cell? ⟨bw, 3, none⟩ = some (.slice Al L.length cl) := by rw [(row_cell Z5.out 3).1]; rfl
            have yf3 : w5.frozen? ⟨bw, 3, none⟩ = false := (row_cell Z5.out 3).2
            have Q := PS.put (Am := none) (cm := 0) P5.out Z5.out (Sq.nil _ _) L5.out PA.out.nq (fun h => by cases h)
            have Q1 := Lib.hid Q.1
            have Q2 : Hid (Below lo w _) := B5.out.trans Q.2
            clear Q Z5 P5 L5 B5
            go_wp2_with fail
            go_meet
            case rel => exact ⟨⟨q, g, false, [], L, none, 0, Al, cl, rfl, Q1.out, Nat.le_succ_of_le HL.out, Q2.out⟩⟩
          have hb2 : (x.d.tmod 8 == 2) = false := by rw [beq_eq_false_iff_ne]; exact h2
          clear h2
          by_cases h6 : x.d.tmod 8 = 6
          · have hb6 : (x.d.tmod 8 == 6) = true := by rw [beq_iff_eq]; exact h6
            clear h6
            by_cases hid : x.id ∈ L
            · skip
              go_wp2_with fail
              refine (rdrop_yes a0 Am M.length cm Al L.length cl sh _ L x.id wc PA.out.ls (by have := HL.out; have := HJ.out; omega) hid).mono ?_
              rintro e w5 ⟨v', rfl, o5, b5⟩
              obtain ⟨A5, c5, rfl⟩ := o5.sl
              obtain ⟨K, hK⟩ : ∃ K, L.erase x.id = K := ⟨_, rfl⟩
              have HK : Hid (K.length ≤ L.length ∧ (L = [] → K = [])) := by
                rw [← hK]
                exact ⟨List.length_erase_le, fun h => by rw [h]; rfl⟩
              have DY : Hid (∀ W, BV lo W q g a0 sh M L → Calls Try.prog 20 #[.pointer (some ⟨g, 0, none⟩), .int .i64 x.id] W fun e w' => e = .returned (.bool true) ∧ BV lo w' q g a0 sh M K ∧ Nx q q W w') := fun W h => by
                rw [← hK]; exact drop_yes lo q g a0 sh M L x.id W h (by have := HL.out; have := HJ.out; omega) hid
              rw [hK] at o5
              rw [hK]
              clear hK
              obtain ⟨b13, hb13⟩ : ∃ b13, w5.heap.size = b13 := ⟨_, rfl⟩
              have b6 : Below wc.heap.size wc (w5.alloc (.cells #[.int .i64 a0, .slice Am M.length cm, .bool sh, .slice A5 K.length c5] 31)) := b5.alloc b5.size _
              have O6 : Hid (Ow 3 (w5.alloc (.cells #[.int .i64 a0, .slice Am M.length cm, .bool sh, .slice A5 K.length c5] 31)) (fun b => lo ≤ b ∧ ¬ q b) (.slice A5 K.length c5) K.length (C K)) := (o5.below ((Below.refl _ _).alloc (Nat.le_refl _) _)).imp fun b _ hb => ⟨by have := PA.out.bv.nil; omega, fun hq => by have := (PA.out.bv.low b hq).2; omega⟩
              have Z13 : Hid ((w5.alloc (.cells #[.int .i64 a0, .slice Am M.length cm, .bool sh, .slice A5 K.length c5] 31)).heap[b13]? = some (.cells #[.int .i64 a0, .slice Am M.length cm, .bool sh, .slice A5 K.length c5] 31 (0, 0))) := by rw [← hb13]; exact heap_alloc_new w5 _
              have N13 : Hid (¬ q b13) := fun hq => by have := (PA.out.bv.low b13 hq).2; have := b5.size; omega
              obtain ⟨W6, hW6⟩ : ∃ W6, w5.alloc (.cells #[.int .i64 a0, .slice Am M.length cm, .bool sh, .slice A5 K.length c5] 31) = W6 := ⟨_, rfl⟩
              rw [hW6] at b6 Z13 O6
              have P6 := Lib.hid (PA.out.below b6)
              have X6 := Lib.hid (XA.out.below b6)
              have B6 : Hid (Below lo w W6) := BA.out.trans (b6.mono PA.out.bv.nil)
              clear b5 b6 o5 x0 x1 x2 y0 y1 y2 y3 yf0 yf1 yf2 yf3
              have x0 : W6.cell? ⟨a9, 0, none⟩ = some (.int .u8 x.d) := by rw [(row_cell X6.out.bx 0).1]; rfl
              have x1 : W6.cell? ⟨a9, 1, none⟩ = some (.int .i64 x.id) := by rw [(row_cell X6.out.bx 1).1]; rfl
              have x2 : W6.cell? ⟨a9, 2, none⟩ = some (.slice Ak nk ck) := by rw [(row_cell X6.out.bx 2).1]; rfl
              go_wp2_with fail
              refine (DY.out W6 P6.out.bv).mono ?_
              rintro e w7 ⟨rfl, p7, n7⟩
              have hlow : ∀ b, q b → lo ≤ b := fun b hb => (P6.out.bv.low b hb).1
              have P7 := Lib.hid p7
              have O7 := Lib.hid (O6.out.nx n7)
              have Z7 := Lib.hid ((n7.fo.block bw P6.out.blt P6.out.nq.1).trans P6.out.bx)
              have Y7 := Lib.hid ((n7.fo.block b13 (Array.getElem?_eq_some_iff.1 Z13.out).1 N13.out).trans Z13.out)
              have M7 := Lib.hid ((P6.out.ms.keep n7.fo.size fun b hb hp => n7.fo.block b hb (fun hr => by have := hlow b hr; omega)).imp fun b _ hb => hb.2)
              have B7 : Hid (Below lo w w7) := B6.out.trans (P6.out.bv.nx n7)
              clear p7 n7 hlow P6 O6 X6 B6 Z13 hW6 hb13 DY x0 x1 x2
              have y0 : w7.cell? ⟨bw, 0, none⟩ = some (.int .i64 a0) := by rw [(row_cell Z7.out 0).1]; rfl
              have yf0 : w7.frozen? ⟨bw, 0, none⟩ = false := (row_cell Z7.out 0).2
              have y1 : w7.cell? ⟨bw, 1, none⟩ = some (.slice Am M.length cm) := by rw [(row_cell Z7.out 1).1]; rfl
              have yf1 : w7.frozen? ⟨bw, 1, none⟩ = false := (row_cell Z7.out 1).2
              have y2 : w7.cell? ⟨bw, 2, none⟩ = some (.bool sh) := by rw [(row_cell Z7.out 2).1]; rfl
              have yf2 : w7.frozen? ⟨bw, 2, none⟩ = false := (row_cell Z7.out 2).2
              have y3 : w7.cell? ⟨bw, 3, none⟩ = some (.slice Al L.length cl) := by rw [(row_cell Z7.out 3).1]; rfl
              have yf3 : w7.frozen? ⟨bw, 3, none⟩ = false := (row_cell Z7.out 3).2
              have z0 : w7.cell? ⟨b13, 0, none⟩ = some (.int .i64 a0) := by rw [(row_cell Y7.out 0).1]; rfl
              have z1 : w7.cell? ⟨b13, 1, none⟩ = some (.slice Am M.length cm) := by rw [(row_cell Y7.out 1).1]; rfl
              have z2 : w7.cell? ⟨b13, 2, none⟩ = some (.bool sh) := by rw [(row_cell Y7.out 2).1]; rfl
              have z3 : w7.cell? ⟨b13, 3, none⟩ = some (.slice A5 K.length c5) := by rw [(row_cell Y7.out 3).1]; rfl
              have Q := PS.put P7.out Z7.out M7.out O7.out PA.out.nq (fun h => HK.out.2 (PA.out.nu h))
              have Q1 := Lib.hid Q.1
              have Q2 : Hid (Below lo w _) := B7.out.trans Q.2
              clear Q P7 Z7 Y7 M7 O7 B7
              go_wp2_with fail
              go_meet
              case rel => exact ⟨⟨q, g, sh, M, K, Am, cm, A5, c5, rfl, Q1.out, by have := HL.out; have := HK.out.1; omega, Q2.out⟩⟩
            · skip
              go_wp2_with fail
              refine (rdrop_no a0 Am M.length cm Al L.length cl sh _ L x.id wc PA.out.ls.sq (by have := HL.out; have := HJ.out; omega) hid).mono ?_
              rintro e w5 ⟨rfl, b5⟩
              obtain ⟨b13, hb13⟩ : ∃ b13, w5.heap.size = b13 := ⟨_, rfl⟩
              have b6 : Below wc.heap.size wc (w5.alloc (.cells #[.int .i64 a0, .slice Am M.length cm, .bool sh, .slice Al L.length cl] 31)) := b5.alloc b5.size _
              have Z13 : Hid ((w5.alloc (.cells #[.int .i64 a0, .slice Am M.length cm, .bool sh, .slice Al L.length cl] 31)).heap[b13]? = some (.cells #[.int .i64 a0, .slice Am M.length cm, .bool sh, .slice Al L.length cl] 31 (0, 0))) := by rw [← hb13]; exact heap_alloc_new w5 _
              obtain ⟨W6, hW6⟩ : ∃ W6, w5.alloc (.cells #[.int .i64 a0, .slice Am M.length cm, .bool sh, .slice Al L.length cl] 31) = W6 := ⟨_, rfl⟩
              rw [hW6] at b6 Z13
              have P6 := Lib.hid (PA.out.below b6)
              have X6 := Lib.hid (XA.out.below b6)
              have B6 : Hid (Below lo w W6) := BA.out.trans (b6.mono PA.out.bv.nil)
              have DN := Lib.hid (drop_no lo q g a0 sh M L x.id W6 P6.out.bv (by have := HL.out; have := HJ.out; omega) hid)
              clear b5 b6 x0 x1 x2 y0 y1 y2 y3 yf0 yf1 yf2 yf3
              have x0 : W6.cell? ⟨a9, 0, none⟩ = some (.int .u8 x.d) := by rw [(row_cell X6.out.bx 0).1]; rfl
              have x1 : W6.cell? ⟨a9, 1, none⟩ = some (.int .i64 x.id) := by rw [(row_cell X6.out.bx 1).1]; rfl
              have x2 : W6.cell? ⟨a9, 2, none⟩ = some (.slice Ak nk ck) := by rw [(row_cell X6.out.bx 2).1]; rfl
              go_wp2_with fail
              refine DN.out.mono ?_
              rintro e w7 ⟨rfl, hw⟩
              have hw := hw.symm
              subst hw
              clear DN X6 hb13 x0 x1 x2
              have y0 : W6.cell? ⟨bw, 0, none⟩ = some (.int .i64 a0) := by rw [(row_cell P6.out.bx 0).1]; rfl
              have yf0 : W6.frozen? ⟨bw, 0, none⟩ = false := (row_cell P6.out.bx 0).2
              have y1 : W6.cell? ⟨bw, 1, none⟩ = some (.slice Am M.length cm) := by rw [(row_cell P6.out.bx 1).1]; rfl
              have yf1 : W6.frozen? ⟨bw, 1, none⟩ = false := (row_cell P6.out.bx 1).2
              have y2 : W6.cell? ⟨bw, 2, none⟩ = some (.bool sh) := by rw [(row_cell P6.out.bx 2).1]; rfl
              have yf2 : W6.frozen? ⟨bw, 2, none⟩ = false := (row_cell P6.out.bx 2).2
              have y3 : W6.cell? ⟨bw, 3, none⟩ = some (.slice Al L.length cl) := by rw [(row_cell P6.out.bx 3).1]; rfl
              have yf3 : W6.frozen? ⟨bw, 3, none⟩ = false := (row_cell P6.out.bx 3).2
              have z0 : W6.cell? ⟨b13, 0, none⟩ = some (.int .i64 a0) := by rw [(row_cell Z13.out 0).1]; rfl
              have z1 : W6.cell? ⟨b13, 1, none⟩ = some (.slice Am M.length cm) := by rw [(row_cell Z13.out 1).1]; rfl
              have z2 : W6.cell? ⟨b13, 2, none⟩ = some (.bool sh) := by rw [(row_cell Z13.out 2).1]; rfl
              have z3 : W6.cell? ⟨b13, 3, none⟩ = some (.slice Al L.length cl) := by rw [(row_cell Z13.out 3).1]; rfl
              have Q := PS.put P6.out.bv P6.out.bx P6.out.ms P6.out.ls P6.out.nq P6.out.nu
              have Q1 := Lib.hid Q.1
              have Q2 : Hid (Below lo w _) := B6.out.trans Q.2
              clear Q P6 B6 Z13 hW6
              go_wp2_with fail
              go_meet
              case rel => exact ⟨⟨q, g, sh, M, L, Am, cm, Al, cl, rfl, Q1.out, Nat.le_succ_of_le HL.out, Q2.out⟩⟩
          have hb6 : (x.d.tmod 8 == 6) = false := by rw [beq_eq_false_iff_ne]; exact h6
          clear h6
          by_cases h7 : x.d.tmod 8 = 7
          · have hb7 : (x.d.tmod 8 == 7) = true := by rw [beq_iff_eq]; exact h7
            clear h7
            go_wp2_with fail
            go_meet
            case rel => exact ⟨⟨q, g, sh, M, L, Am, cm, Al, cl, rfl, PA.out, Nat.le_succ_of_le HL.out, BA.out⟩⟩
          have hb7 : (x.d.tmod 8 == 7) = false := by rw [beq_eq_false_iff_ne]; exact h7
          clear h7
          cases sh with
          | true =>
            go_wp2_with fail
            refine (read_any lo q g a0 true M L x.id wc PA.out.bv (by have := HL.out; have := HJ.out; omega)).mono ?_
            rintro e w4 ⟨r, q4, rfl, o4, p4, n4⟩
            obtain ⟨A4, c4, rfl⟩ := o4.sl
            have hlow : ∀ b, q b → lo ≤ b := fun b hb => (PA.out.bv.low b hb).1
            have P4 : Hid (BV lo w4 q4 g a0 true M L) := by have := p4; unfold readL at this; rw [if_pos rfl] at this; exact this
            have O4 := Lib.hid o4
            have B4 : Hid (Below lo w w4) := BA.out.trans (PA.out.bv.nx n4)
            have L4 := Lib.hid (PA.out.ls.nx n4)
            have X4 := Lib.hid (XA.out.nx n4 hlow)
            have M4 := Lib.hid ((PA.out.ms.keep n4.fo.size fun b hb hp => n4.fo.block b hb (fun hr => by have := hlow b hr; omega)).imp fun b _ hb => hb.2)
            have E4 : Hid (¬ q4 bw) := fun h => by
              rcases n4.sub bw h with h1 | h1
              · exact PA.out.nq.1 h1
              · have := PA.out.blt; omega
            have Z4 := Lib.hid ((n4.fo.block bw PA.out.blt PA.out.nq.1).trans PA.out.bx)
            clear p4 n4 o4 hlow x0 x1 x2 y0 y1 y2 y3 yf0 yf1 yf2 yf3
            have x0 : w4.cell? ⟨a9, 0, none⟩ = some (.int .u8 x.d) := by rw [(row_cell X4.out.bx 0).1]; rfl
            have x1 : w4.cell? ⟨a9, 1, none⟩ = some (.int .i64 x.id) := by rw [(row_cell X4.out.bx 1).1]; rfl
            have x2 : w4.cell? ⟨a9, 2, none⟩ = some (.slice Ak nk ck) := by rw [(row_cell X4.out.bx 2).1]; rfl
            have y0 : w4.cell? ⟨bw, 0, none⟩ = some (.int .i64 a0) := by rw [(row_cell Z4.out 0).1]; rfl
            have yf0 : w4.frozen? ⟨bw, 0, none⟩ = false := (row_cell Z4.out 0).2
            have y1 : w4.cell? ⟨bw, 1, none⟩ = some (.slice Am M.length cm) := by rw [(row_cell Z4.out 1).1]; rfl
            have yf1 : w4.frozen? ⟨bw, 1, none⟩ = false := (row_cell Z4.out 1).2
            have y2 : w4.cell? ⟨bw, 2, none⟩ = some (.bool true) := by rw [(row_cell Z4.out 2).1]; rfl
            have yf2 : w4.frozen? ⟨bw, 2, none⟩ = false := (row_cell Z4.out 2).2
            have y3 : w4.cell? ⟨bw, 3, none⟩ = some (.slice Al L.length cl) := by rw [(row_cell Z4.out 3).1]; rfl
            have yf3 : w4.frozen? ⟨bw, 3, none⟩ = false := (row_cell Z4.out 3).2
            go_wp2_with fail
            refine (rread_shown a0 Am M.length cm Al L.length cl true x.id w4 rfl).mono ?_
            rintro e w5 ⟨rfl, b5⟩
            obtain ⟨b13, hb13⟩ : ∃ b13, w5.heap.size = b13 := ⟨_, rfl⟩
            have b6 : Below w4.heap.size w4 (w5.alloc (.cells #[.int .i64 a0, .slice Am M.length cm, .bool true, .slice Al L.length cl] 31)) := b5.alloc b5.size _
            have Z13 : Hid ((w5.alloc (.cells #[.int .i64 a0, .slice Am M.length cm, .bool true, .slice Al L.length cl] 31)).heap[b13]? = some (.cells #[.int .i64 a0, .slice Am M.length cm, .bool true, .slice Al L.length cl] 31 (0, 0))) := by rw [← hb13]; exact heap_alloc_new w5 _
            obtain ⟨W6, hW6⟩ : ∃ W6, w5.alloc (.cells #[.int .i64 a0, .slice Am M.length cm, .bool true, .slice Al L.length cl] 31) = W6 := ⟨_, rfl⟩
            rw [hW6] at b6 Z13
            have P6 := Lib.hid (P4.out.below b6)
            have R6 := Lib.hid (O4.out.below b6)
            have O6 := Lib.hid (L4.out.below b6)
            have M6 := Lib.hid (M4.out.belowP b6)
            have Z6 := Lib.hid ((b6.block bw (Array.getElem?_eq_some_iff.1 Z4.out).1).trans Z4.out)
            have B6 : Hid (Below lo w W6) := B4.out.trans (b6.mono P4.out.nil)
            have EQ := Lib.hid (uequal_same _ _ _ _ M W6 R6.out.sq.st M6.out.st (by have := P6.out.nl; omega))
            clear b5 b6 P4 O4 L4 X4 M4 Z4 B4 x0 x1 x2 y0 y1 y2 y3 yf0 yf1 yf2 yf3
            go_wp2_with fail
            refine EQ.out.mono ?_
            rintro e w7 ⟨rfl, b7⟩
            have P7 := Lib.hid (P6.out.below b7)
            have O7 := Lib.hid (O6.out.below b7)
            have M7 := Lib.hid (M6.out.belowP b7)
            have Z7 := Lib.hid ((b7.block bw (Array.getElem?_eq_some_iff.1 Z6.out).1).trans Z6.out)
            have Y7 := Lib.hid ((b7.block b13 (Array.getElem?_eq_some_iff.1 Z13.out).1).trans Z13.out)
            have B7 : Hid (Below lo w w7) := B6.out.trans (b7.mono P6.out.nil)
            clear b7 EQ P6 R6 O6 M6 Z6 B6 Z13 hW6 hb13
            have y0 : w7.cell? ⟨bw, 0, none⟩ = some (.int .i64 a0) := by rw [(row_cell Z7.out 0).1]; rfl
            have yf0 : w7.frozen? ⟨bw, 0, none⟩ = false := (row_cell Z7.out 0).2
            have y1 : w7.cell? ⟨bw, 1, none⟩ = some (.slice Am M.length cm) := by rw [(row_cell Z7.out 1).1]; rfl
            have yf1 : w7.frozen? ⟨bw, 1, none⟩ = false := (row_cell Z7.out 1).2
            have y2 : w7.cell? ⟨bw, 2, none⟩ = some (.bool true) := by rw [(row_cell Z7.out 2).1]; rfl
            have yf2 : w7.frozen? ⟨bw, 2, none⟩ = false := (row_cell Z7.out 2).2
            have y3 : w7.cell? ⟨bw, 3, none⟩ = some (.slice Al L.length cl) := by rw [(row_cell Z7.out 3).1]; rfl
            have yf3 : w7.frozen? ⟨bw, 3, none⟩ = false := (row_cell Z7.out 3).2
            have z0 : w7.cell? ⟨b13, 0, none⟩ = some (.int .i64 a0) := by rw [(row_cell Y7.out 0).1]; rfl
            have z1 : w7.cell? ⟨b13, 1, none⟩ = some (.slice Am M.length cm) := by rw [(row_cell Y7.out 1).1]; rfl
            have z2 : w7.cell? ⟨b13, 2, none⟩ = some (.bool true) := by rw [(row_cell Y7.out 2).1]; rfl
            have z3 : w7.cell? ⟨b13, 3, none⟩ = some (.slice Al L.length cl) := by rw [(row_cell Y7.out 3).1]; rfl
            have Q := PS.put P7.out Z7.out M7.out O7.out ⟨E4.out, PA.out.nq.2⟩ (PA.out.nu)
            have Q1 := Lib.hid Q.1
            have Q2 : Hid (Below lo w _) := B7.out.trans Q.2
            clear Q Z7 P7 Y7 M7 O7 B7
            go_wp2_with fail
            go_meet
            case rel => exact ⟨⟨q4, g, true, M, L, Am, cm, Al, cl, rfl, Q1.out, Nat.le_succ_of_le HL.out, Q2.out⟩⟩
          | false =>
            by_cases hid : x.id ∈ L
            · skip
              go_wp2_with fail
              refine (read_any lo q g a0 false M L x.id wc PA.out.bv (by have := HL.out; have := HJ.out; omega)).mono ?_
              rintro e w4 ⟨r, q4, rfl, o4, p4, n4⟩
              obtain ⟨A4, c4, rfl⟩ := o4.sl
              have hlow : ∀ b, q b → lo ≤ b := fun b hb => (PA.out.bv.low b hb).1
              have P4 : Hid (BV lo w4 q4 g a0 false M L) := by have := p4; unfold readL at this; rw [if_neg (by simp), if_pos hid] at this; exact this
              have O4 := Lib.hid o4
              have B4 : Hid (Below lo w w4) := BA.out.trans (PA.out.bv.nx n4)
              have L4 := Lib.hid (PA.out.ls.nx n4)
              have X4 := Lib.hid (XA.out.nx n4 hlow)
              have M4 := Lib.hid ((PA.out.ms.keep n4.fo.size fun b hb hp => n4.fo.block b hb (fun hr => by have := hlow b hr; omega)).imp fun b _ hb => hb.2)
              have E4 : Hid (¬ q4 bw) := fun h => by
                rcases n4.sub bw h with h1 | h1
                · exact PA.out.nq.1 h1
                · have := PA.out.blt; omega
              have Z4 := Lib.hid ((n4.fo.block bw PA.out.blt PA.out.nq.1).trans PA.out.bx)
              clear p4 n4 o4 hlow x0 x1 x2 y0 y1 y2 y3 yf0 yf1 yf2 yf3
              have x0 : w4.cell? ⟨a9, 0, none⟩ = some (.int .u8 x.d) := by rw [(row_cell X4.out.bx 0).1]; rfl
              have x1 : w4.cell? ⟨a9, 1, none⟩ = some (.int .i64 x.id) := by rw [(row_cell X4.out.bx 1).1]; rfl
              have x2 : w4.cell? ⟨a9, 2, none⟩ = some (.slice Ak nk ck) := by rw [(row_cell X4.out.bx 2).1]; rfl
              have y0 : w4.cell? ⟨bw, 0, none⟩ = some (.int .i64 a0) := by rw [(row_cell Z4.out 0).1]; rfl
              have yf0 : w4.frozen? ⟨bw, 0, none⟩ = false := (row_cell Z4.out 0).2
              have y1 : w4.cell? ⟨bw, 1, none⟩ = some (.slice Am M.length cm) := by rw [(row_cell Z4.out 1).1]; rfl
              have yf1 : w4.frozen? ⟨bw, 1, none⟩ = false := (row_cell Z4.out 1).2
              have y2 : w4.cell? ⟨bw, 2, none⟩ = some (.bool false) := by rw [(row_cell Z4.out 2).1]; rfl
              have yf2 : w4.frozen? ⟨bw, 2, none⟩ = false := (row_cell Z4.out 2).2
              have y3 : w4.cell? ⟨bw, 3, none⟩ = some (.slice Al L.length cl) := by rw [(row_cell Z4.out 3).1]; rfl
              have yf3 : w4.frozen? ⟨bw, 3, none⟩ = false := (row_cell Z4.out 3).2
              go_wp2_with fail
              refine (rread_in a0 Am M.length cm Al L.length cl false _ L x.id w4 L4.out.sq (by have := HL.out; have := HJ.out; omega) hid rfl).mono ?_
              rintro e w5 ⟨rfl, b5⟩
              obtain ⟨b13, hb13⟩ : ∃ b13, w5.heap.size = b13 := ⟨_, rfl⟩
              have b6 : Below w4.heap.size w4 (w5.alloc (.cells #[.int .i64 a0, .slice Am M.length cm, .bool false, .slice Al L.length cl] 31)) := b5.alloc b5.size _
              have Z13 : Hid ((w5.alloc (.cells #[.int .i64 a0, .slice Am M.length cm, .bool false, .slice Al L.length cl] 31)).heap[b13]? = some (.cells #[.int .i64 a0, .slice Am M.length cm, .bool false, .slice Al L.length cl] 31 (0, 0))) := by rw [← hb13]; exact heap_alloc_new w5 _
              obtain ⟨W6, hW6⟩ : ∃ W6, w5.alloc (.cells #[.int .i64 a0, .slice Am M.length cm, .bool false, .slice Al L.length cl] 31) = W6 := ⟨_, rfl⟩
              rw [hW6] at b6 Z13
              have P6 := Lib.hid (P4.out.below b6)
              have R6 := Lib.hid (O4.out.below b6)
              have O6 := Lib.hid (L4.out.below b6)
              have M6 := Lib.hid (M4.out.belowP b6)
              have Z6 := Lib.hid ((b6.block bw (Array.getElem?_eq_some_iff.1 Z4.out).1).trans Z4.out)
              have B6 : Hid (Below lo w W6) := B4.out.trans (b6.mono P4.out.nil)
              have EQ : Hid (Calls Try.prog 22 #[.slice A4 M.length c4, .slice none 0 0] W6 fun e w' => e = .returned (.bool true) ∧ Below W6.heap.size W6 w') :=
                (U.uequal_any _ 0 _ _ M [] W6 R6.out.sq.st St.nil (by have := P6.out.nl; omega)).mono fun e w' h => ⟨by rw [h.1, PA.out.bv.nm rfl]; rfl, h.2⟩
              clear b5 b6 P4 O4 L4 X4 M4 Z4 B4 x0 x1 x2 y0 y1 y2 y3 yf0 yf1 yf2 yf3
              go_wp2_with fail
              refine EQ.out.mono ?_
              rintro e w7 ⟨rfl, b7⟩
              have P7 := Lib.hid (P6.out.below b7)
              have O7 := Lib.hid (O6.out.below b7)
              have M7 := Lib.hid (M6.out.belowP b7)
              have Z7 := Lib.hid ((b7.block bw (Array.getElem?_eq_some_iff.1 Z6.out).1).trans Z6.out)
              have Y7 := Lib.hid ((b7.block b13 (Array.getElem?_eq_some_iff.1 Z13.out).1).trans Z13.out)
              have B7 : Hid (Below lo w w7) := B6.out.trans (b7.mono P6.out.nil)
              clear b7 EQ P6 R6 O6 M6 Z6 B6 Z13 hW6 hb13
              have y0 : w7.cell? ⟨bw, 0, none⟩ = some (.int .i64 a0) := by rw [(row_cell Z7.out 0).1]; rfl
              have yf0 : w7.frozen? ⟨bw, 0, none⟩ = false := (row_cell Z7.out 0).2
              have y1 : w7.cell? ⟨bw, 1, none⟩ = some (.slice Am M.length cm) := by rw [(row_cell Z7.out 1).1]; rfl
              have yf1 : w7.frozen? ⟨bw, 1, none⟩ = false := (row_cell Z7.out 1).2
              have y2 : w7.cell? ⟨bw, 2, none⟩ = some (.bool false) := by rw [(row_cell Z7.out 2).1]; rfl
              have yf2 : w7.frozen? ⟨bw, 2, none⟩ = false := (row_cell Z7.out 2).2
              have y3 : w7.cell? ⟨bw, 3, none⟩ = some (.slice Al L.length cl) := by rw [(row_cell Z7.out 3).1]; rfl
              have yf3 : w7.frozen? ⟨bw, 3, none⟩ = false := (row_cell Z7.out 3).2
              have z0 : w7.cell? ⟨b13, 0, none⟩ = some (.int .i64 a0) := by rw [(row_cell Y7.out 0).1]; rfl
              have z1 : w7.cell? ⟨b13, 1, none⟩ = some (.slice Am M.length cm) := by rw [(row_cell Y7.out 1).1]; rfl
              have z2 : w7.cell? ⟨b13, 2, none⟩ = some (.bool false) := by rw [(row_cell Y7.out 2).1]; rfl
              have z3 : w7.cell? ⟨b13, 3, none⟩ = some (.slice Al L.length cl) := by rw [(row_cell Y7.out 3).1]; rfl
              have Q := PS.put P7.out Z7.out M7.out O7.out ⟨E4.out, PA.out.nq.2⟩ ((fun h => by cases h))
              have Q1 := Lib.hid Q.1
              have Q2 : Hid (Below lo w _) := B7.out.trans Q.2
              clear Q Z7 P7 Y7 M7 O7 B7
              go_wp2_with fail
              go_meet
              case rel => exact ⟨⟨q4, g, false, M, L, Am, cm, Al, cl, rfl, Q1.out, Nat.le_succ_of_le HL.out, Q2.out⟩⟩
            · skip
              go_wp2_with fail
              refine (read_any lo q g a0 false M L x.id wc PA.out.bv (by have := HL.out; have := HJ.out; omega)).mono ?_
              rintro e w4 ⟨r, q4, rfl, o4, p4, n4⟩
              obtain ⟨A4, c4, rfl⟩ := o4.sl
              have hlow : ∀ b, q b → lo ≤ b := fun b hb => (PA.out.bv.low b hb).1
              have P4 : Hid (BV lo w4 q4 g a0 false M (L ++ [x.id])) := by have := p4; unfold readL at this; rw [if_neg (by simp), if_neg hid] at this; exact this
              have O4 := Lib.hid o4
              have B4 : Hid (Below lo w w4) := BA.out.trans (PA.out.bv.nx n4)
              have L4 := Lib.hid (PA.out.ls.nx n4)
              have X4 := Lib.hid (XA.out.nx n4 hlow)
              have M4 := Lib.hid ((PA.out.ms.keep n4.fo.size fun b hb hp => n4.fo.block b hb (fun hr => by have := hlow b hr; omega)).imp fun b _ hb => hb.2)
              have E4 : Hid (¬ q4 bw) := fun h => by
                rcases n4.sub bw h with h1 | h1
                · exact PA.out.nq.1 h1
                · have := PA.out.blt; omega
              have Z4 := Lib.hid ((n4.fo.block bw PA.out.blt PA.out.nq.1).trans PA.out.bx)
              clear p4 n4 o4 hlow x0 x1 x2 y0 y1 y2 y3 yf0 yf1 yf2 yf3
              have x0 : w4.cell? ⟨a9, 0, none⟩ = some (.int .u8 x.d) := by rw [(row_cell X4.out.bx 0).1]; rfl
              have x1 : w4.cell? ⟨a9, 1, none⟩ = some (.int .i64 x.id) := by rw [(row_cell X4.out.bx 1).1]; rfl
              have x2 : w4.cell? ⟨a9, 2, none⟩ = some (.slice Ak nk ck) := by rw [(row_cell X4.out.bx 2).1]; rfl
              have y0 : w4.cell? ⟨bw, 0, none⟩ = some (.int .i64 a0) := by rw [(row_cell Z4.out 0).1]; rfl
              have yf0 : w4.frozen? ⟨bw, 0, none⟩ = false := (row_cell Z4.out 0).2
              have y1 : w4.cell? ⟨bw, 1, none⟩ = some (.slice Am M.length cm) := by rw [(row_cell Z4.out 1).1]; rfl
              have yf1 : w4.frozen? ⟨bw, 1, none⟩ = false := (row_cell Z4.out 1).2
              have y2 : w4.cell? ⟨bw, 2, none⟩ = some (.bool false) := by rw [(row_cell Z4.out 2).1]; rfl
              have yf2 : w4.frozen? ⟨bw, 2, none⟩ = false := (row_cell Z4.out 2).2
              have y3 : w4.cell? ⟨bw, 3, none⟩ = some (.slice Al L.length cl) := by rw [(row_cell Z4.out 3).1]; rfl
              have yf3 : w4.frozen? ⟨bw, 3, none⟩ = false := (row_cell Z4.out 3).2
              go_wp2_with fail
              refine (rread_new a0 Am M.length cm Al L.length cl false _ L x.id w4 L4.out.sq (by have := HL.out; have := HJ.out; omega) hid rfl).mono ?_
              rintro e w5 ⟨v', rfl, o5, b5⟩
              obtain ⟨A5, c5, rfl⟩ := o5.sl
              obtain ⟨K, hK⟩ : ∃ K, L ++ [x.id] = K := ⟨_, rfl⟩
              have HK : Hid (K.length = L.length + 1) := by rw [← hK]; simp [Hid]
              rw [hK] at o5 P4
              rw [hK]
              clear hK
              have O5 : Hid (Ow 3 w5 (fun b => lo ≤ b ∧ ¬ q4 b) (.slice A5 K.length c5) K.length (C K)) := o5.imp fun b _ hb => ⟨by have := P4.out.nil; omega, fun hq => by have := (P4.out.low b hq).2; omega⟩
              obtain ⟨b13, hb13⟩ : ∃ b13, w5.heap.size = b13 := ⟨_, rfl⟩
              have b6 : Below w4.heap.size w4 (w5.alloc (.cells #[.int .i64 a0, .slice Am M.length cm, .bool false, .slice A5 K.length c5] 31)) := b5.alloc b5.size _
              have Z13 : Hid ((w5.alloc (.cells #[.int .i64 a0, .slice Am M.length cm, .bool false, .slice A5 K.length c5] 31)).heap[b13]? = some (.cells #[.int .i64 a0, .slice Am M.length cm, .bool false, .slice A5 K.length c5] 31 (0, 0))) := by rw [← hb13]; exact heap_alloc_new w5 _
              have O6 : Hid (Ow 3 (w5.alloc (.cells #[.int .i64 a0, .slice Am M.length cm, .bool false, .slice A5 K.length c5] 31)) (fun b => lo ≤ b ∧ ¬ q4 b) (.slice A5 K.length c5) K.length (C K)) := O5.out.below ((Below.refl _ _).alloc (Nat.le_refl _) _)
              obtain ⟨W6, hW6⟩ : ∃ W6, w5.alloc (.cells #[.int .i64 a0, .slice Am M.length cm, .bool false, .slice A5 K.length c5] 31) = W6 := ⟨_, rfl⟩
              rw [hW6] at b6 Z13 O6
              have P6 := Lib.hid (P4.out.below b6)
              have R6 := Lib.hid (O4.out.below b6)

              have M6 := Lib.hid (M4.out.belowP b6)
              have Z6 := Lib.hid ((b6.block bw (Array.getElem?_eq_some_iff.1 Z4.out).1).trans Z4.out)
              have B6 : Hid (Below lo w W6) := B4.out.trans (b6.mono P4.out.nil)
              have EQ : Hid (Calls Try.prog 22 #[.slice A4 M.length c4, .slice none 0 0] W6 fun e w' => e = .returned (.bool true) ∧ Below W6.heap.size W6 w') :=
                (U.uequal_any _ 0 _ _ M [] W6 R6.out.sq.st St.nil (by have := P6.out.nl; omega)).mono fun e w' h => ⟨by rw [h.1, PA.out.bv.nm rfl]; rfl, h.2⟩
              clear b5 b6 P4 O4 L4 X4 M4 Z4 B4 x0 x1 x2 y0 y1 y2 y3 yf0 yf1 yf2 yf3
              go_wp2_with fail
              refine EQ.out.mono ?_
              rintro e w7 ⟨rfl, b7⟩
              have P7 := Lib.hid (P6.out.below b7)
              have O7 := Lib.hid (O6.out.below b7)
              have M7 := Lib.hid (M6.out.belowP b7)
              have Z7 := Lib.hid ((b7.block bw (Array.getElem?_eq_some_iff.1 Z6.out).1).trans Z6.out)
              have Y7 := Lib.hid ((b7.block b13 (Array.getElem?_eq_some_iff.1 Z13.out).1).trans Z13.out)
              have B7 : Hid (Below lo w w7) := B6.out.trans (b7.mono P6.out.nil)
              clear b7 EQ P6 R6 O6 M6 Z6 B6 Z13 hW6 hb13
              have y0 : w7.cell? ⟨bw, 0, none⟩ = some (.int .i64 a0) := by rw [(row_cell Z7.out 0).1]; rfl
              have yf0 : w7.frozen? ⟨bw, 0, none⟩ = false := (row_cell Z7.out 0).2
              have y1 : w7.cell? ⟨bw, 1, none⟩ = some (.slice Am M.length cm) := by rw [(row_cell Z7.out 1).1]; rfl
              have yf1 : w7.frozen? ⟨bw, 1, none⟩ = false := (row_cell Z7.out 1).2
              have y2 : w7.cell? ⟨bw, 2, none⟩ = some (.bool false) := by rw [(row_cell Z7.out 2).1]; rfl
              have yf2 : w7.frozen? ⟨bw, 2, none⟩ = false := (row_cell Z7.out 2).2
              have y3 : w7.cell? ⟨bw, 3, none⟩ = some (.slice Al L.length cl) := by rw [(row_cell Z7.out 3).1]; rfl
              have yf3 : w7.frozen? ⟨bw, 3, none⟩ = false := (row_cell Z7.out 3).2
              have z0 : w7.cell? ⟨b13, 0, none⟩ = some (.int .i64 a0) := by rw [(row_cell Y7.out 0).1]; rfl
              have z1 : w7.cell? ⟨b13, 1, none⟩ = some (.slice Am M.length cm) := by rw [(row_cell Y7.out 1).1]; rfl
              have z2 : w7.cell? ⟨b13, 2, none⟩ = some (.bool false) := by rw [(row_cell Y7.out 2).1]; rfl
              have z3 : w7.cell? ⟨b13, 3, none⟩ = some (.slice A5 K.length c5) := by rw [(row_cell Y7.out 3).1]; rfl
              have Q := PS.put P7.out Z7.out M7.out O7.out ⟨E4.out, PA.out.nq.2⟩ ((fun h => by cases h))
              have Q1 := Lib.hid Q.1
              have Q2 : Hid (Below lo w _) := B7.out.trans Q.2
              clear Q Z7 P7 Y7 M7 O7 B7
              go_wp2_with fail
              go_meet
              case rel => exact ⟨⟨q4, g, false, M, K, Am, cm, A5, c5, rfl, Q1.out, by have := HL.out; have := HK.out; omega, Q2.out⟩⟩
        case rest =>
          obtain ⟨⟨q, g, sh, M, L, Am, cm, Al, cl, rfl, hps, hll, hb⟩⟩ := hcut
          have PT := Lib.hid hps
          have BT := Lib.hid hb
          have HL2 : Hid (L.length ≤ j + 1) := hll
          clear hps hll hb PA XA BA HL x0 x1 x2 y0 y1 y2 y3 yf0 yf1 yf2 yf3
          go_wp2_with fail
          refine (shown_any lo q g a0 sh M L _ PT.out.bv).mono ?_
          rintro e w4 ⟨r, rfl, r4, b4⟩
          obtain ⟨A4, c4, rfl⟩ := slice_form r4
          have P4 := Lib.hid (PT.out.below b4)
          have R4 := Lib.hid (Ow.of_own r4)
          have B4 : Hid (Below lo w w4) := BT.out.trans (b4.mono PT.out.bv.nil)
          have CE1 : Hid (∀ W (hb : Below w4.heap.size w4 W), Calls Try.prog 22 #[.slice A4 M.length c4, .slice Am M.length cm] W fun e w' => e = .returned (.bool true) ∧ Below W.heap.size W w') := fun W hb => uequal_same _ _ _ _ M W (R4.out.below hb).sq.st (P4.out.ms.belowP hb).st (by have := P4.out.bv.nl; omega)
          have CE2 : Hid (∀ W (hb : Below w4.heap.size w4 W), Calls Try.prog 24 #[.pointer (some ⟨g, 0, none⟩)] W fun e w' => ∃ r, e = .returned r ∧ w'.ownsRow W.heap.size 3 1 r L.length (C L) ∧ Below W.heap.size W w') := fun W hb => waiting_any lo q g a0 sh M L W (P4.out.bv.below hb) (by have := HL2.out; have := HJ.out; omega)
          have hshb : (sh != sh) = false := by simp
          clear r4 b4 PT BT
          have y0 : w4.cell? ⟨bw, 0, none⟩ = some (.int .i64 a0) := by rw [(row_cell P4.out.bx 0).1]; rfl
          have yf0 : w4.frozen? ⟨bw, 0, none⟩ = false := (row_cell P4.out.bx 0).2
          have y1 : w4.cell? ⟨bw, 1, none⟩ = some (.slice Am M.length cm) := by rw [(row_cell P4.out.bx 1).1]; rfl
          have yf1 : w4.frozen? ⟨bw, 1, none⟩ = false := (row_cell P4.out.bx 1).2
          have y2 : w4.cell? ⟨bw, 2, none⟩ = some (.bool sh) := by rw [(row_cell P4.out.bx 2).1]; rfl
          have yf2 : w4.frozen? ⟨bw, 2, none⟩ = false := (row_cell P4.out.bx 2).2
          have y3 : w4.cell? ⟨bw, 3, none⟩ = some (.slice Al L.length cl) := by rw [(row_cell P4.out.bx 3).1]; rfl
          have yf3 : w4.frozen? ⟨bw, 3, none⟩ = false := (row_cell P4.out.bx 3).2
          go_wp2_with fail
          refine wp_region_held_drew (S := (fun w' => Below w4.heap.size w4 w' ∧ w'.cell? ⟨bw, 1, none⟩ = some (.slice Am M.length cm) ∧ w'.cell? ⟨bw, 2, none⟩ = some (.bool sh) ∧ w'.cell? ⟨bw, 3, none⟩ = some (.slice Al L.length cl))) (by kernel_rfl) ?_ (fun hHeld => ?_)
          · exact ⟨(Below.refl _ _).drew, y1, y2, y3⟩
          refine takeD (i := 0) (d := some 174) (v := ?_) _ rfl rfl (by kernel_rfl) (by kernel_rfl) (by kernel_rfl) (fun _ _ _ h => h) (by rfl) ?_ (by assumption) ?_
          rotate_left
          · (intro w hSw; (try dsimp only at hSw); go_simp) <;> with_reducible rfl
          try simp only [Act.put, List.setIfInBounds_toArray, List.set_cons_zero, List.set_cons_succ]
          refine takeD (i := 1) (d := some 175) (v := ?_) _ rfl rfl (by kernel_rfl) (by kernel_rfl) (by kernel_rfl) (fun _ _ _ h => h) (by rfl) ?_ (by assumption) ?_
          rotate_left
          · (intro w hSw; (try dsimp only at hSw); go_simp) <;> with_reducible rfl
          try simp only [Act.put, List.setIfInBounds_toArray, List.set_cons_zero, List.set_cons_succ]
          refine takeD (i := 2) (d := some 176) (v := ?_) _ rfl rfl (by kernel_rfl) (by kernel_rfl) (by kernel_rfl) (fun _ _ _ h => h) (by rfl) ?_ (by assumption) ?_
          rotate_left
          · (intro w hSw; (try dsimp only at hSw); go_simp) <;> with_reducible rfl
          try simp only [Act.put, List.setIfInBounds_toArray, List.set_cons_zero, List.set_cons_succ]
          refine takeD (i := 3) (d := some 177) (v := ?_) _ rfl rfl (by kernel_rfl) (by kernel_rfl) (by kernel_rfl) (fun _ _ _ h => h) (by rfl) ?_ (by assumption) ?_
          rotate_left
          · (intro w hSw; (try dsimp only at hSw); go_simp) <;> with_reducible rfl
          try simp only [Act.put, List.setIfInBounds_toArray, List.set_cons_zero, List.set_cons_succ]
          refine takeD (i := 4) (d := some 178) (v := ?_) _ rfl rfl (by kernel_rfl) (by kernel_rfl) (by kernel_rfl) (fun _ _ _ h => h) (by rfl) ?_ (by assumption) ?_
          rotate_left
          · (intro w hSw; (try dsimp only at hSw); go_simp) <;> with_reducible rfl
          try simp only [Act.put, List.setIfInBounds_toArray, List.set_cons_zero, List.set_cons_succ]
          refine takeD (i := 5) (d := some 179) (v := ?_) _ rfl rfl (by kernel_rfl) (by kernel_rfl) (by kernel_rfl) (fun _ _ _ h => h) (by rfl) ?_ (by assumption) ?_
          rotate_left
          · (intro w hSw; (try dsimp only at hSw); go_simp) <;> with_reducible rfl
          try simp only [Act.put, List.setIfInBounds_toArray, List.set_cons_zero, List.set_cons_succ]
          refine takeD (i := 6) (d := some 180) (v := ?_) _ rfl rfl (by kernel_rfl) (by kernel_rfl) (by kernel_rfl) (fun _ _ _ h => h) (by rfl) ?_ (by assumption) ?_
          rotate_left
          · (intro w hSw; (try dsimp only at hSw); go_simp) <;> with_reducible rfl
          try simp only [Act.put, List.setIfInBounds_toArray, List.set_cons_zero, List.set_cons_succ]
          refine takeD (i := 7) (d := some 181) (v := ?_) _ rfl rfl (by kernel_rfl) (by kernel_rfl) (by kernel_rfl) (fun _ _ _ h => h) (by rfl) ?_ (by assumption) ?_
          rotate_left
          · (intro w hSw; (try dsimp only at hSw); go_simp) <;> with_reducible rfl
          try simp only [Act.put, List.setIfInBounds_toArray, List.set_cons_zero, List.set_cons_succ]
          refine wpAnyH_ready (rs := [8]) (by kernel_rfl) (by simp) ?_
          refine AllReadyH.cons rfl (fun K hK => ?_) AllReadyH.nil
          try go_simp
          go_at_call 22
          refine (CE1.out _ hHeld.1).mono ?_
          rintro e wx ⟨rfl, hb2⟩
          try go_wp2_with fail
          refine hK.out _ _ ?_ (fun hHeld => ?_)
          · exact ⟨hHeld.1.trans (hb2.mono hHeld.1.size), cell_later hb2 hHeld.2.1, cell_later hb2 hHeld.2.2.1, cell_later hb2 hHeld.2.2.2⟩
          clear hK K
          try simp only [Act.put, List.setIfInBounds_toArray, List.set_cons_zero, List.set_cons_succ]
          refine takeD (i := 9) (d := some 183) (v := ?_) _ rfl rfl (by kernel_rfl) (by kernel_rfl) (by kernel_rfl) (fun _ _ _ h => h) (by rfl) ?_ (by assumption) ?_
          rotate_left
          · (intro w hSw; (try dsimp only at hSw); go_simp) <;> with_reducible rfl
          try simp only [Act.put, List.setIfInBounds_toArray, List.set_cons_zero, List.set_cons_succ]
          refine takeD (i := 10) (d := some 184) (v := ?_) _ rfl rfl (by kernel_rfl) (by kernel_rfl) (by kernel_rfl) (fun _ _ _ h => h) (by rfl) ?_ (by assumption) ?_
          rotate_left
          · (intro w hSw; (try dsimp only at hSw); go_simp) <;> with_reducible rfl
          try simp only [Act.put, List.setIfInBounds_toArray, List.set_cons_zero, List.set_cons_succ]
          refine takeD (i := 11) (d := some 185) (v := ?_) _ rfl rfl (by kernel_rfl) (by kernel_rfl) (by kernel_rfl) (fun _ _ _ h => h) (by rfl) ?_ (by assumption) ?_
          rotate_left
          · (intro w hSw; (try dsimp only at hSw); go_simp) <;> with_reducible rfl
          try simp only [Act.put, List.setIfInBounds_toArray, List.set_cons_zero, List.set_cons_succ]
          refine takeD (i := 12) (d := some 186) (v := ?_) _ rfl rfl (by kernel_rfl) (by kernel_rfl) (by kernel_rfl) (fun _ _ _ h => h) (by rfl) ?_ (by assumption) ?_
          rotate_left
          · (intro w hSw; (try dsimp only at hSw); go_simp) <;> with_reducible rfl
          try simp only [Act.put, List.setIfInBounds_toArray, List.set_cons_zero, List.set_cons_succ]
          refine takeD (i := 14) (d := some 188) (v := ?_) _ rfl rfl (by kernel_rfl) (by kernel_rfl) (by kernel_rfl) (fun _ _ _ h => h) (by rfl) ?_ (by assumption) ?_
          rotate_left
          · (intro w hSw; (try dsimp only at hSw); go_simp) <;> with_reducible rfl
          try simp only [Act.put, List.setIfInBounds_toArray, List.set_cons_zero, List.set_cons_succ]
          refine takeD (i := 15) (d := some 189) (v := ?_) _ rfl rfl (by kernel_rfl) (by kernel_rfl) (by kernel_rfl) (fun _ _ _ h => h) (by rfl) ?_ (by assumption) ?_
          rotate_left
          · (intro w hSw; (try dsimp only at hSw); go_simp) <;> with_reducible rfl
          try simp only [Act.put, List.setIfInBounds_toArray, List.set_cons_zero, List.set_cons_succ]
          refine wpAnyH_ready (rs := [13]) (by kernel_rfl) (by simp) ?_
          refine AllReadyH.cons rfl (fun K hK => ?_) AllReadyH.nil
          try go_simp
          go_at_call 24
          refine (CE2.out _ hHeld.1).mono ?_
          rintro e wy ⟨r, rfl, r6, hb2⟩
          obtain ⟨A6, c6, rfl⟩ := slice_form r6
          have R6 := Lib.hid (Ow.of_own r6)
          clear r6
          try go_wp2_with fail
          refine hK.out _ _ ?_ (fun hHeld => ?_)
          · exact ⟨hHeld.1.trans (hb2.mono hHeld.1.size), cell_later hb2 hHeld.2.1, cell_later hb2 hHeld.2.2.1, cell_later hb2 hHeld.2.2.2⟩
          clear hK K
          try simp only [Act.put, List.setIfInBounds_toArray, List.set_cons_zero, List.set_cons_succ]
          refine wpAnyH_ready (rs := [16]) (by kernel_rfl) (by simp) ?_
          refine AllReadyH.cons rfl (fun K hK => ?_) AllReadyH.nil
          try go_simp
          go_at_call 16
          refine (iequal_same _ _ _ _ L _ R6.out.sq.st (P4.out.ls.below hHeld.1).sq.st (by have := HL2.out; have := HJ.out; omega)).mono ?_
          rintro e wz ⟨rfl, hb2⟩
          try go_wp2_with fail
          refine hK.out _ _ ?_ (fun hHeld => ?_)
          · exact ⟨hHeld.1.trans (hb2.mono hHeld.1.size), cell_later hb2 hHeld.2.1, cell_later hb2 hHeld.2.2.1, cell_later hb2 hHeld.2.2.2⟩
          clear hK K
          try simp only [Act.put, List.setIfInBounds_toArray, List.set_cons_zero, List.set_cons_succ]
          refine takeD (i := 17) (d := some 191) (v := ?_) _ rfl rfl (by kernel_rfl) (by kernel_rfl) (by kernel_rfl) (fun _ _ _ h => h) (by rfl) ?_ (by assumption) ?_
          rotate_left
          · (intro w hSw; (try dsimp only at hSw); go_simp) <;> with_reducible rfl
          try simp only [Act.put, List.setIfInBounds_toArray, List.set_cons_zero, List.set_cons_succ]
          refine takeD (i := 18) (d := some 192) (v := ?_) _ rfl rfl (by kernel_rfl) (by kernel_rfl) (by kernel_rfl) (fun _ _ _ h => h) (by rfl) ?_ (by assumption) ?_
          rotate_left
          · (intro w hSw; (try dsimp only at hSw); go_simp) <;> with_reducible rfl
          try simp only [Act.put, List.setIfInBounds_toArray, List.set_cons_zero, List.set_cons_succ]
          refine wpAnyH_done (by kernel_rfl) ?_ _
          have HS := Lib.hid hHeld.1
          have B7 : Hid (Below lo w wz) := B4.out.trans (hHeld.1.mono P4.out.bv.nil)
          have P7 := Lib.hid (P4.out.below hHeld.1)
          clear hHeld P4 B4 CE1 CE2 y0 y1 y2 y3 yf0 yf1 yf2 yf3
          go_wp2_with fail
          go_roundw
          case rel =>
            have Q : PR lo bw len a0 w (.pointer (some ⟨g, 0, none⟩)) (.int .i64 ((j : Int) + 1)) wz := ⟨⟨j + 1, q, g, sh, M, L, Am, cm, Al, cl, HX.out, by go_num, rfl, P7.out, HL2.out, B7.out⟩⟩
            first | exact Q | ((repeat apply Exists.intro); exact ⟨Q, rfl⟩)
          case measure => have := HX.out; have := H40.out; simp [intOf]; omega
    · have hjI : ¬ (j : Int) < (len : Int) := by omega
      clear hlt
      go_wp2_with fail
      go_ret
      exact ⟨rfl, HB.out⟩
end Go.Proofs.Ytfmcmhgpgkeplaa.B
