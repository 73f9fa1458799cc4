/-
  QueuingChain's walk. Each statement bears its own conditions.
-/
import Derived.Test.YtejambofnffopaaQuI
namespace Go.Proofs.Ytejambofnffopaa.Q
open Go.RowKit Go.Proofs.Ytejambofnffopaa.F Go.Proofs.Ytejambofnffopaa.U
set_option linter.unusedVariables false
set_option linter.unusedSimpArgs false
/-- Messages of one number each, from a on, b not among them. -/
def seg (a b : Nat) : List (List Int) := (List.range' a (b - a)).map (fun i : Nat => [(i : Int)])
theorem seg_len (a b : Nat) : (seg a b).length = b - a := by simp [seg]
theorem seg_nil (a : Nat) : seg a a = [] := by simp [seg]
theorem seg_app {a b c : Nat} (h1 : a ≤ b) (h2 : b ≤ c) : seg a b ++ seg b c = seg a c := by
  unfold seg
  rw [← List.map_append]
  congr 1
  have := List.range'_append (s := a) (m := b - a) (n := c - b) (step := 1)
  rw [show a + 1 * (b - a) = b by omega, show b - a + (c - b) = c - a by omega] at this
  exact this
theorem seg_one (a : Nat) : seg a (a + 1) = [[(a : Int)]] := by
  unfold seg
  rw [show a + 1 - a = 1 by omega]
  rfl
theorem seg_succ {a b : Nat} (h : a ≤ b) : seg a (b + 1) = seg a b ++ [[(b : Int)]] := by rw [← seg_app h (Nat.le_succ b), seg_one]
theorem seg_cons {a b : Nat} (h : a < b) : seg a b = [(a : Int)] :: seg (a + 1) b := by
  rw [← seg_app (Nat.le_succ a) h, seg_one]; rfl
theorem seg_drop {a b j : Nat} (h : a + j ≤ b) : (seg a b).drop j = seg (a + j) b := by
  rw [← seg_app (show a ≤ a + j by omega) h]
  exact List.drop_left' (by rw [seg_len]; omega)
theorem seg_get {a b i : Nat} (h : a + i < b) : (seg a b)[i]? = some [((a + i : Nat) : Int)] := by
  have h1 : ((seg a b).drop i)[0]? = (seg a b)[i]? := by rw [List.getElem?_drop]; simp
  rw [← h1, seg_drop (by omega), seg_cons h]; rfl
theorem seg_all {a b : Nat} : ∀ L ∈ seg a b, L.length = 1 := by
  intro L hL
  unfold seg at hL
  obtain ⟨i, _, rfl⟩ := List.mem_map.1 hL
  rfl
structure CH (lo g g2 rp rq : Nat) (w : World) (c m s : Nat) (p p2 : Nat → Prop) (wr : World) : Prop where
  qp : QV lo wr p (fun _ => True) g 1 (rp : Int) (seg m s) false
  qq : QV lo wr p2 (fun _ => True) g2 1 (rq : Int) (seg c m) false
  dj : ∀ b, p b → ¬ p2 b
  le : c ≤ m ∧ m ≤ s
  be : Below lo w wr
theorem CH.below {lo g g2 rp rq : Nat} {w : World} {c m s : Nat} {p p2 : Nat → Prop} {wr w' : World} (h : CH lo g g2 rp rq w c m s p p2 wr) (hb : Below wr.heap.size wr w') : CH lo g g2 rp rq w c m s p p2 w' := ⟨h.qp.below hb, h.qq.below hb, h.dj, h.le, h.be.trans (hb.mono h.qp.nil)⟩
structure CR (lo g g2 rp rq len : Nat) (w : World) (sv cv iv : Value) (wr : World) : Prop where
  ex : ∃ (i c m s : Nat) (p p2 : Nat → Prop), i ≤ len ∧ i ≤ 100 ∧ iv = .int .i64 (i : Int) ∧ sv = .int .u32 (s : Int) ∧ cv = .int .u32 (c : Int) ∧ s ≤ i ∧ CH lo g g2 rp rq w c m s p p2 wr
structure CC (lo g g2 rp rq i : Nat) (w : World) (sv cv : Value) (wr : World) : Prop where
  ex : ∃ (c m s : Nat) (p p2 : Nat → Prop), sv = .int .u32 (s : Int) ∧ cv = .int .u32 (c : Int) ∧ s ≤ i + 1 ∧ CH lo g g2 rp rq w c m s p p2 wr
structure CE (lo g g2 rp rq : Nat) (w : World) (sv cv : Value) (wr : World) : Prop where
  ex : ∃ (c m s : Nat) (p p2 : Nat → Prop), sv = .int .u32 (s : Int) ∧ cv = .int .u32 (c : Int) ∧ s ≤ 100 ∧ CH lo g g2 rp rq w c m s p p2 wr
structure PR (ws lo g g2 rp rq kk c m s : Nat) (w : World) (px q1 : Nat → Prop) (Sx : List Sl) (Ax : Option Addr) (ls cx : Nat) (iv : Value) (wr : World) : Prop where
  ex : ∃ (x : Nat) (p2 : Nat → Prop), x ≤ kk ∧ iv = .int .i64 (x : Int) ∧ ws ≤ wr.heap.size ∧ QV lo wr q1 (fun _ => True) g 1 (rp : Int) [] false ∧ QV lo wr p2 (fun _ => True) g2 1 (rq : Int) (seg c (m + x)) false ∧ (∀ b, px b → ¬ p2 b) ∧ Ow 33 wr (fun b => px b ∧ ¬ q1 b) (.slice Ax ls cx) ls (CS Sx) ∧ Ms wr (fun _ => True) Sx (seg m s) ∧ Below lo w wr
structure SR (c s : Nat) (B : Nat) (W : World) (iv : Value) (wr : World) : Prop where
  ex : ∃ i : Nat, i ≤ s - c ∧ iv = .int .i64 (i : Int) ∧ Below B W wr
set_option maxRecDepth 100000 in
set_option maxHeartbeats 40000000 in
theorem chain_walk (a0 a1 : Int) (a : Option Addr) (len cap : Nat) (zs : List Int) (w : World) (h0 : IsRow .u8 w a len cap zs) : Calls Try.prog 4 #[.int .i64 a0, .int .i64 a1, .slice a len cap] w fun e w' => e = .returned (.bool true) ∧ Below w.heap.size w w' := by
  have HR := Lib.hid h0
  have he := he_qu
  obtain ⟨lo, hlo⟩ : ∃ lo, w.heap.size = lo := ⟨_, rfl⟩
  have HLO : Hid (lo ≤ w.heap.size ∧ w.heap.size ≤ lo) := by unfold Hid; omega
  have u1 := u64_tmod a0 32 (by decide)
  have u2 := u64_tmod a1 32 (by decide)
  obtain ⟨q1, hq1⟩ : ∃ q : Int, (IntKind.u64.wrap a0).tmod 32 = q := ⟨_, rfl⟩
  obtain ⟨q2, hq2⟩ : ∃ q : Int, (IntKind.u64.wrap a1).tmod 32 = q := ⟨_, rfl⟩
  rw [hq1] at u1
  rw [hq2] at u2
  obtain ⟨rp, hrp⟩ : ∃ n : Nat, 1 + q1 = (n : Int) := ⟨(1 + q1).toNat, by omega⟩
  obtain ⟨rq, hrq⟩ : ∃ k : Nat, 1 + q2 = (k : Int) := ⟨(1 + q2).toNat, by omega⟩
  have l1 : 0 ≤ q1 := u1.1
  have l2 : q1 ≤ 31 := by omega
  have l3 : 0 ≤ q2 := u2.1
  have l4 : q2 ≤ 31 := by omega
  have l5 : (rp : Int) ≤ 32 := by omega
  have l6 : (rq : Int) ≤ 32 := by omega
  have HND : Hid ((1 : Int) ≤ rp ∧ (rp : Int) ≤ 32 ∧ (1 : Int) ≤ rq ∧ (rq : Int) ≤ 32) := ⟨by omega, by omega, by omega, by omega⟩
  have NW := Lib.hid (new_any (fun _ => True) 1 (rp : Int) w (by omega) (by omega) HND.out.1 HND.out.2.1)
  rw [hlo] at NW ⊢
  clear u1 u2 hlo h0
  go_enter Try.func4, Try.ntmps4
  go_wp2_with fail
  refine NW.out.mono ?_
  rintro e w1 ⟨rfl, q1', b1⟩
  have Q1 := Lib.hid q1'
  have B1 := Lib.hid b1
  clear q1' b1 NW
  go_wp2_with fail
  refine (new_any (fun _ => True) 1 (rq : Int) w1 (by omega) (by omega) HND.out.2.2.1 HND.out.2.2.2).mono ?_
  rintro e w2 ⟨rfl, q2', b2⟩
  obtain ⟨g2, hg2⟩ : ∃ g2, w1.heap.size = g2 := ⟨_, rfl⟩
  have HG : Hid (lo < g2) := by have := Q1.out.lt; unfold Hid; omega
  rw [hg2] at q2' b2
  have C2 : Hid (CH lo lo g2 rp rq w 0 0 0 (fun b => b = lo) (fun b => b = g2) w2) := by
    refine ⟨by rw [seg_nil]; exact Q1.out.below (by rw [hg2]; exact b2), by rw [seg_nil]; exact q2'.less (Nat.le_of_lt HG.out), fun b hb hp => by have := HG.out; omega, by omega, B1.out.trans (b2.mono (Nat.le_of_lt HG.out))⟩
  simp only [hg2]
  clear q2' b2 hg2 Q1 B1
  go_upto_block 0 with fail
  go_cut [11, 12, 13] (fun sv cv iv wx => CE lo lo g2 rp rq w sv cv wx)
  case first =>
    go_wp2_with fail
    go_loopw [11, 12, 13] (fun sv cv iv wr => CR lo lo g2 rp rq len w sv cv iv wr) (fun _ _ i _ => 100 - (intOf i).toNat)
    case atStart => exact ⟨⟨0, 0, 0, 0, _, _, Nat.zero_le _, by omega, rfl, rfl, rfl, Nat.le_refl _, C2.out⟩⟩
    case round =>
      obtain ⟨⟨i, c, m, s, p, p2, hi, hi1, rfl, rfl, rfl, hsi, hch⟩⟩ := hrel
      have HC := Lib.hid hch
      have HS : Hid (s ≤ i ∧ i ≤ 100) := ⟨hsi, hi1⟩
      clear hch
      by_cases hlt : i < len
      rotate_left
      · have hjI : ¬ (i : Int) < (len : Int) := by omega
        have hjb : decide ((i : Int) < (len : Int)) = false := by simpa using hjI
        clear hlt hi hsi hi1
        go_wp2_with fail
        go_meet
        case rel => exact ⟨⟨c, m, s, p, p2, rfl, rfl, by have := HS.out; omega, HC.out⟩⟩
      by_cases hcap : i < 100
      rotate_left
      · have hjI : (i : Int) < (len : Int) := by omega
        have hjb : decide ((i : Int) < (len : Int)) = true := by simpa using hjI
        have hcI : ¬ (i : Int) < 100 := by omega
        have hcb : decide ((i : Int) < 100) = false := by simpa using hcI
        clear hlt hi hcap hsi hi1
        go_wp2_with fail
        go_meet
        case rel => exact ⟨⟨c, m, s, p, p2, rfl, rfl, by have := HS.out; omega, HC.out⟩⟩
      have hjI : (i : Int) < (len : Int) := by omega
      have hjb : decide ((i : Int) < (len : Int)) = true := by simpa using hjI
      have hcI : (i : Int) < 100 := by omega
      have hcb : decide ((i : Int) < 100) = true := by simpa using hcI
      have HX : Hid (i < len ∧ i < 100) := ⟨hlt, hcap⟩
      obtain ⟨b0, off0, hax, hbl0, hc0⟩ := row_at HR.out (show 0 < len by omega)
      subst hax
      obtain ⟨x0, hx0⟩ : ∃ x0, x0 = zs.getD i 0 := ⟨_, rfl⟩
      have hcc := hc0 i hlt
      rw [← hx0] at hcc
      have e0 : wr.cell? ⟨b0, off0 + i, none⟩ = some (.int .u8 x0) := cell_low HC.out.be (by have := HLO.out; omega) hcc.1
      have hs100 : (s : Int) ≤ 100 := by omega
      have hle := HC.out.le
      have hcs : (c : Int) ≤ 100 := by omega
      obtain ⟨ls, hls⟩ : ∃ ls, s - m = ls := ⟨_, rfl⟩
      obtain ⟨lq, hlq⟩ : ∃ lq, m - c = lq := ⟨_, rfl⟩
      have HLS := Lib.hid hls
      have HLQ := Lib.hid hlq
      have HLSS : Hid (ls ≤ 32 ∧ (ls : Int) ≤ (rp : Int) ∧ lq ≤ 32 ∧ (lq : Int) ≤ (rq : Int)) := by
        have h1 := HC.out.qp.bd
        have h2 := HC.out.qq.bd
        rw [seg_len] at h1 h2
        unfold Hid; omega
      have hl32 : (ls : Int) ≤ 32 := by have := HLSS.out; omega
      have hq32 : (lq : Int) ≤ 32 := by have := HLSS.out; omega
      have HPL : Hid (∀ b, p b → b < wr.heap.size) := fun b hb => (HC.out.qp.low b hb).2
      obtain ⟨ws, hws⟩ : ∃ ws, wr.heap.size = ws := ⟨_, rfl⟩
      rw [hws] at HPL
      clear hc0 hcc hx0 hbl0 hlt hi hsi hi1 hcap hls hlq hle
      go_upto_block 2 with fail
      go_cut [11, 12] (fun sv cv wx => CC lo lo g2 rp rq i w sv cv wx)
      case first =>
        by_cases h0 : x0.tmod 4 = 0
        · have hb0 : (x0.tmod 4 == 0) = true := by rw [beq_iff_eq]; exact h0
          clear h0
          by_cases hf : (rp : Int) = (ls : Int)
          · have hfb : ((rp : Int) - (ls : Int) == 0) = true := by rw [beq_iff_eq]; omega
            have HF : Hid ((rp : Int) = (ls : Int)) := hf
            clear hf
            go_wp2_with fail
            refine (free_any lo p (fun _ => True) lo 1 (rp : Int) (seg m s) false wr HC.out.qp).mono ?_
            rintro e w2 ⟨he2, b2⟩
            rw [seg_len, HLS.out] at he2
            subst he2
            have C2 := Lib.hid (HC.out.below b2)
            clear b2 HC
            have hx : Below w2.heap.size w2 (w2.alloc (.cells #[.int .u32 (s : Int)] 52)) := (Below.refl _ _).alloc (Nat.le_refl _) _
            have S3 := Lib.hid (Sq.lit w2 #[.int .u32 (s : Int)] 52 1 1 rfl)
            have C3 := Lib.hid (C2.out.below hx)
            clear hx C2
            go_wp2_with fail
            refine (send_no lo p (fun _ => True) lo 1 (rp : Int) (seg m s) false _ _ 1 1 [(s : Int)] 8 _ C3.out.qp S3.out (by rw [chk_one, seg_len, HLS.out, if_neg (by simp), if_pos (by have := HF.out; omega)]) (by decide)).mono ?_
            rintro e w4 ⟨rfl, b4⟩
            have C4 := Lib.hid (C3.out.below b4)
            clear b4 C3 S3
            go_wp2_with fail
            go_meet
            case rel => exact ⟨⟨c, m, s, p, p2, rfl, rfl, by have := HS.out; omega, C4.out⟩⟩

          have hfb : ((rp : Int) - (ls : Int) == 0) = false := by rw [beq_eq_false_iff_ne]; omega
          have hfz : ¬ (rp : Int) - (ls : Int) = 0 := by omega
          have HF : Hid (¬ (rp : Int) = (ls : Int) ∧ (ls : Int) ≤ (rp : Int)) := ⟨hf, by have := HLSS.out; omega⟩
          clear hf
          go_wp2_with fail
          refine (free_any lo p (fun _ => True) lo 1 (rp : Int) (seg m s) false wr HC.out.qp).mono ?_
          rintro e w2 ⟨he2, b2⟩
          rw [seg_len, HLS.out] at he2
          subst he2
          have C2 := Lib.hid (HC.out.below b2)
          clear b2 HC
          have hx : Below w2.heap.size w2 (w2.alloc (.cells #[.int .u32 (s : Int)] 52)) := (Below.refl _ _).alloc (Nat.le_refl _) _
          have S3 := Lib.hid (Sq.lit w2 #[.int .u32 (s : Int)] 52 1 1 rfl)
          have C3 := Lib.hid (C2.out.below hx)
          clear hx C2
          go_wp2_with fail
          refine (send_ok lo p (fun _ => True) lo 1 (rp : Int) (seg m s) false _ _ 1 1 [(s : Int)] _ C3.out.qp S3.out (by rw [chk_one, seg_len, HLS.out, if_neg (by simp), if_neg (by have := HF.out; omega)]) (fun _ _ => trivial)).mono ?_
          rintro e w4 ⟨q, rfl, q4, n4⟩
          rw [← seg_succ C3.out.le.2] at q4
          have C4 : Hid (CH lo lo g2 rp rq w c m (s + 1) q p2 w4) := by
            refine ⟨q4, C3.out.qq.fot n4.fo (fun b hb hp => C3.out.dj b hp hb) C3.out.qp.ty, fun b hb hp => ?_, ⟨C3.out.le.1, by have := C3.out.le; omega⟩, C3.out.be.trans (C3.out.qp.nx n4)⟩
            rcases n4.sub b hb with h | h
            · exact C3.out.dj b h hp
            · have := (C3.out.qq.low b hp).2; omega
          have hsw : IntKind.u32.wrap ((s : Int) + 1) = (s : Int) + 1 := IntWalk.u32_in _ ⟨by omega, by omega⟩
          have hs1 : ((s + 1 : Nat) : Int) = (s : Int) + 1 := by omega
          clear q4 n4 C3 S3
          go_wp2_with fail
          go_meet
          case rel => exact ⟨⟨c, m, s + 1, q, p2, by rw [hs1], rfl, by have := HS.out; omega, C4.out⟩⟩

        have hb0 : (x0.tmod 4 == 0) = false := by rw [beq_eq_false_iff_ne]; exact h0
        by_cases h1 : x0.tmod 4 = 1
        · have hb1 : (x0.tmod 4 == 1) = true := by rw [beq_iff_eq]; exact h1
          clear h1 h0
          by_cases hf : (rp : Int) = (ls : Int)
          · have hfb : ((rp : Int) - (ls : Int) == 0) = true := by rw [beq_iff_eq]; omega
            have HF : Hid ((rp : Int) = (ls : Int)) := hf
            clear hf
            go_wp2_with fail
            refine (free_any lo p (fun _ => True) lo 1 (rp : Int) (seg m s) false wr HC.out.qp).mono ?_
            rintro e w2 ⟨he2, b2⟩
            rw [seg_len, HLS.out] at he2
            subst he2
            have C2 := Lib.hid (HC.out.below b2)
            clear b2 HC
            have hx : Below w2.heap.size w2 (w2.alloc (.cells #[.int .u32 (s : Int)] 52)) := (Below.refl _ _).alloc (Nat.le_refl _) _
            have S3 := Lib.hid (Sq.lit w2 #[.int .u32 (s : Int)] 52 1 1 rfl)
            have C3 := Lib.hid (C2.out.below hx)
            clear hx C2
            go_wp2_with fail
            refine (send_no lo p (fun _ => True) lo 1 (rp : Int) (seg m s) false _ _ 1 1 [(s : Int)] 8 _ C3.out.qp S3.out (by rw [chk_one, seg_len, HLS.out, if_neg (by simp), if_pos (by have := HF.out; omega)]) (by decide)).mono ?_
            rintro e w4 ⟨rfl, b4⟩
            have C4 := Lib.hid (C3.out.below b4)
            clear b4 C3 S3
            go_wp2_with fail
            go_meet
            case rel => exact ⟨⟨c, m, s, p, p2, rfl, rfl, by have := HS.out; omega, C4.out⟩⟩

          have hfb : ((rp : Int) - (ls : Int) == 0) = false := by rw [beq_eq_false_iff_ne]; omega
          have hfz : ¬ (rp : Int) - (ls : Int) = 0 := by omega
          have HF : Hid (¬ (rp : Int) = (ls : Int) ∧ (ls : Int) ≤ (rp : Int)) := ⟨hf, by have := HLSS.out; omega⟩
          clear hf
          go_wp2_with fail
          refine (free_any lo p (fun _ => True) lo 1 (rp : Int) (seg m s) false wr HC.out.qp).mono ?_
          rintro e w2 ⟨he2, b2⟩
          rw [seg_len, HLS.out] at he2
          subst he2
          have C2 := Lib.hid (HC.out.below b2)
          clear b2 HC
          have hx : Below w2.heap.size w2 (w2.alloc (.cells #[.int .u32 (s : Int)] 52)) := (Below.refl _ _).alloc (Nat.le_refl _) _
          have S3 := Lib.hid (Sq.lit w2 #[.int .u32 (s : Int)] 52 1 1 rfl)
          have C3 := Lib.hid (C2.out.below hx)
          clear hx C2
          go_wp2_with fail
          refine (send_ok lo p (fun _ => True) lo 1 (rp : Int) (seg m s) false _ _ 1 1 [(s : Int)] _ C3.out.qp S3.out (by rw [chk_one, seg_len, HLS.out, if_neg (by simp), if_neg (by have := HF.out; omega)]) (fun _ _ => trivial)).mono ?_
          rintro e w4 ⟨q, rfl, q4, n4⟩
          rw [← seg_succ C3.out.le.2] at q4
          have C4 : Hid (CH lo lo g2 rp rq w c m (s + 1) q p2 w4) := by
            refine ⟨q4, C3.out.qq.fot n4.fo (fun b hb hp => C3.out.dj b hp hb) C3.out.qp.ty, fun b hb hp => ?_, ⟨C3.out.le.1, by have := C3.out.le; omega⟩, C3.out.be.trans (C3.out.qp.nx n4)⟩
            rcases n4.sub b hb with h | h
            · exact C3.out.dj b h hp
            · have := (C3.out.qq.low b hp).2; omega
          have hsw : IntKind.u32.wrap ((s : Int) + 1) = (s : Int) + 1 := IntWalk.u32_in _ ⟨by omega, by omega⟩
          have hs1 : ((s + 1 : Nat) : Int) = (s : Int) + 1 := by omega
          clear q4 n4 C3 S3
          go_wp2_with fail
          go_meet
          case rel => exact ⟨⟨c, m, s + 1, q, p2, by rw [hs1], rfl, by have := HS.out; omega, C4.out⟩⟩

        have hb1 : (x0.tmod 4 == 1) = false := by rw [beq_eq_false_iff_ne]; exact h1
        by_cases h2 : x0.tmod 4 = 2
        · have hb2 : (x0.tmod 4 == 2) = true := by rw [beq_iff_eq]; exact h2
          clear h0 h1 h2
          by_cases hf : c < m
          · have HF : Hid (c < m) := hf
            clear hf
            go_wp2_with fail
            refine (receive_some lo p2 (fun _ => True) g2 1 (rq : Int) (seg c m) false [(c : Int)] (seg (c + 1) m) wr HC.out.qq (seg_cons HF.out)).mono ?_
            rintro e w2 ⟨A2, c2, q, rfl, o2, q2, n2⟩
            have O2 := Lib.hid o2
            have C2 : Hid (CH lo lo g2 rp rq w (c + 1) m s p q w2) := by
              refine ⟨HC.out.qp.fot n2.fo (fun b hb hp => HC.out.dj b hb hp) HC.out.qq.ty, q2, fun b hb hp => ?_, ⟨HF.out, HC.out.le.2⟩, HC.out.be.trans (HC.out.qq.nx n2)⟩
              rcases n2.sub b hp with h | h
              · exact HC.out.dj b hb h
              · have := (HC.out.qp.low b hb).2; omega
            clear o2 q2 n2 HC
            have hx : Below w2.heap.size w2 (w2.alloc (.cells #[.int .u32 (c : Int)] 52)) := (Below.refl _ _).alloc (Nat.le_refl _) _
            have L3 := Lib.hid (Sq.lit w2 #[.int .u32 (c : Int)] 52 1 1 rfl)
            have O3 := Lib.hid (O2.out.below hx)
            have C3 := Lib.hid (C2.out.below hx)
            clear hx O2 C2
            go_wp2_with fail
            refine (lsame_any _ _ _ _ [(c : Int)] [(c : Int)] _ O3.out.sq.st L3.out.st (by simp)).mono ?_
            rintro e w4 ⟨he4, b4⟩
            simp only [decide_true] at he4
            subst he4
            have C4 := Lib.hid (C3.out.below b4)
            have hcw : IntKind.u32.wrap ((c : Int) + 1) = (c : Int) + 1 := IntWalk.u32_in _ ⟨by omega, by omega⟩
            have hc1 : ((c + 1 : Nat) : Int) = (c : Int) + 1 := by omega
            clear b4 O3 L3 C3
            go_wp2_with fail
            go_meet
            case rel => exact ⟨⟨c + 1, m, s, p, q, rfl, by rw [hc1], by have := HS.out; omega, C4.out⟩⟩

          have HF : Hid (c = m) := by have := HC.out.le; unfold Hid; omega
          clear hf
          go_wp2_with fail
          refine (receive_none lo p2 (fun _ => True) g2 1 (rq : Int) (seg c m) false wr HC.out.qq (by rw [HF.out, seg_nil])).mono ?_
          rintro e w2 ⟨q, rfl, q2, n2⟩
          have C2 : Hid (CH lo lo g2 rp rq w c m s p q w2) := by
            refine ⟨HC.out.qp.fot n2.fo (fun b hb hp => HC.out.dj b hb hp) HC.out.qq.ty, by rw [HF.out, seg_nil]; exact q2, fun b hb hp => ?_, HC.out.le, HC.out.be.trans (HC.out.qq.nx n2)⟩
            rcases n2.sub b hp with h | h
            · exact HC.out.dj b hb h
            · have := (HC.out.qp.low b hb).2; omega
          clear q2 n2 HC
          go_wp2_with fail
          go_meet
          case rel => exact ⟨⟨c, m, s, p, q, rfl, rfl, by have := HS.out; omega, C2.out⟩⟩

        have hb2 : (x0.tmod 4 == 2) = false := by rw [beq_eq_false_iff_ne]; exact h2
        by_cases h3 : x0.tmod 4 = 3
        · have hb3 : (x0.tmod 4 == 3) = true := by rw [beq_iff_eq]; exact h3
          clear h0 h1 h2 h3
          have HWS : Hid (ws ≤ wr.heap.size) := by unfold Hid; omega
          go_wp2_with fail
          refine (drain_any lo p (fun _ => True) lo 1 (rp : Int) (seg m s) false wr HC.out.qp).mono ?_
          rintro e w2 ⟨vx, Sx, q1, rfl, ox, mx, q1', n2, e2⟩
          rw [seg_len, HLS.out] at ox
          obtain ⟨Ax, cx, rfl⟩ := ox.sl
          have hqq := HC.out.qq.fot n2.fo (fun b hb hp => HC.out.dj b hp hb) HC.out.qp.ty
          have HPG : Hid (p lo ∧ ∀ b, q1 b → b = lo) := ⟨HC.out.qp.pg, e2⟩
          have Q2 := Lib.hid q1'
          have X2 := Lib.hid ox
          have M2 := Lib.hid mx
          have P2 := Lib.hid hqq
          have HDJ := Lib.hid HC.out.dj
          have HLE := Lib.hid HC.out.le
          have B2 : Hid (Below lo w w2) := HC.out.be.trans (HC.out.qp.nx n2)
          have HW2 : Hid (ws ≤ w2.heap.size) := Nat.le_trans HWS.out n2.fo.size
          clear q1' ox mx n2 e2 hqq HC
          obtain ⟨kk, hkk⟩ : ∃ kk : Nat, min (ls : Int) ((rq : Int) - (lq : Int)) = (kk : Int) := ⟨(min (ls : Int) ((rq : Int) - (lq : Int))).toNat, by have := P2.out.bd; rw [seg_len, HLQ.out] at this; omega⟩
          have HKK : Hid (kk ≤ ls ∧ (kk : Int) ≤ (rq : Int) - (lq : Int) ∧ ls ≤ cx) := ⟨by omega, by omega, ow_cap X2.out⟩
          have hk0 : ¬ (kk : Int) < 0 := by omega
          have hkb : decide ((kk : Int) < 0) = false := by simp
          have hk1 : (kk : Int) ≤ (ls : Int) := by omega
          have hlcx : (ls : Int) ≤ (cx : Int) := by have := HKK.out; omega
          have hk100 : (kk : Int) ≤ 100 := by omega
          go_wp2_with fail
          refine (free_any lo p2 (fun _ => True) g2 1 (rq : Int) (seg c m) false w2 P2.out).mono ?_
          rintro e w3 ⟨he3, b3⟩
          rw [seg_len, HLQ.out] at he3
          subst he3
          have Q3 := Lib.hid (Q2.out.below b3)
          have X3 := Lib.hid (X2.out.below b3)
          have M3 := Lib.hid (M2.out.below b3)
          have P3 := Lib.hid (P2.out.below b3)
          have B3 : Hid (Below lo w w3) := B2.out.trans (b3.mono Q2.out.nil)
          have HW3 : Hid (ws ≤ w3.heap.size) := Nat.le_trans HW2.out b3.size
          clear b3 Q2 X2 M2 P2 B2
          go_wp2_with fail
          go_loopw [21] (fun iv wr => PR ws lo lo g2 rp rq kk c m s w p q1 Sx Ax ls cx iv wr) (fun x _ => kk - (intOf x).toNat)
          case atStart => exact ⟨⟨0, p2, Nat.zero_le _, rfl, HW3.out, Q3.out, P3.out, HDJ.out, X3.out, M3.out, B3.out⟩⟩
          case round =>
            obtain ⟨⟨x, p3, hx, rfl, hws', hq, hp, hd, ho, hm, hb⟩⟩ := hrel
            have HWX := Lib.hid hws'
            have HQ := Lib.hid hq
            have HP := Lib.hid hp
            have HD := Lib.hid hd
            have HO := Lib.hid ho
            have HM := Lib.hid hm
            have HB := Lib.hid hb
            clear hq hp hd ho hm hb hws'
            by_cases hlt : x < kk
            rotate_left
            · have hxk : x = kk := by omega
              subst hxk
              obtain ⟨A1, hA1⟩ : ∃ A1, (if cx = x then Ax else Ax.map (fun y => y.add x)) = A1 := ⟨_, rfl⟩
              have SQ := Lib.hid (Sq_drop HO.out.sq HKK.out.1 HKK.out.2.2)
              rw [hA1, CS_drop] at SQ
              have hx0 : (0 : Int) ≤ (x : Int) := by omega
              have BK := Lib.hid (back_ok lo q1 (fun _ => True) lo 1 (rp : Int) [] false _ _ A1 (ls - x) (cx - x) (Sx.drop x) ((seg m s).drop x) wr HQ.out SQ.out (HM.out.mr.drop x) (by have := HLSS.out; omega) (chk_fits (fun L hL => by rw [seg_all L (List.mem_of_mem_drop hL)]; omega) (by have := HLSS.out; rw [List.length_drop, seg_len, HLS.out]; simp; omega)) (fun _ _ => trivial))
              rw [seg_drop (by have := HKK.out; have := HLSS.out; have := HLE.out; have := HLS.out; omega), List.append_nil] at BK
              have hxI : ¬ (x : Int) < (x : Int) := by omega
              clear hlt hx
              go_wp2_with fail
              refine BK.out.mono ?_
              rintro e w4 ⟨q4, rfl, q4', n4⟩
              have C4 : Hid (CH lo lo g2 rp rq w c (m + x) s q4 p3 w4) := by
                have hsub : ∀ b, q1 b → ¬ p3 b := fun b hb hp => by have := HPG.out.2 b hb; subst this; exact HD.out _ HPG.out.1 hp
                refine ⟨q4', HP.out.fot n4.fo (fun b hb hp => hsub b hp hb) HQ.out.ty, fun b hb hp => ?_, by have := HKK.out; have := HLE.out; have := HLS.out; omega, HB.out.trans (HQ.out.nx n4)⟩
                rcases n4.sub b hb with h | h
                · exact hsub b h hp
                · have := (HP.out.low b hp).2; omega
              clear q4' n4 BK SQ HQ HP HO HM HB HD Q3 X3 M3 P3 B3
              go_wp2_with fail
              go_meet
              case rel => exact ⟨⟨c, m + x, s, q4, p3, rfl, rfl, by have := HS.out; omega, C4.out⟩⟩
            have hxI : (x : Int) < (kk : Int) := by omega
            have HX : Hid (x < kk) := hlt
            obtain ⟨As, cs, L, hs, hl, hsq⟩ := HM.out.mr.get (i := x) (by rw [seg_len, HLS.out]; have := HKK.out; omega)
            rw [seg_get (by have := HKK.out; have := HLS.out; have := HLE.out; omega)] at hl
            injection hl with hl
            subst hl
            obtain ⟨b, off, hA, hbl, hc⟩ := sl_at HO.out.sq (show x < ls by have := HKK.out; omega) hs
            subst hA
            have e0 : wr.cell? ⟨b, off + x, none⟩ = some (.slice As 1 cs) := hc
            have HSQ : Hid (Sq wr (fun _ => True) (.slice As 1 cs) 1 (CU [((m + x : Nat) : Int)])) := hsq
            have hxl : (x : Int) < (ls : Int) := by omega
            clear hs hsq hbl hc hlt hx
            go_wp2_with fail
            refine (push_ok lo p3 (fun _ => True) g2 1 (rq : Int) (seg c (m + x)) false _ As 1 cs [((m + x : Nat) : Int)] wr HP.out HSQ.out (by rw [chk_one, seg_len, if_neg (by simp), if_neg (by have := HKK.out; have := HX.out; have := HLE.out; have := HLQ.out; omega)]) (fun _ _ => trivial)).mono ?_
            rintro e w4 ⟨q4, rfl, q4', n4⟩
            rw [← seg_succ (by have := HLE.out; omega)] at q4'
            have P4 : Hid (QV lo w4 q4 (fun _ => True) g2 1 (rq : Int) (seg c (m + (x + 1))) false) := q4'
            have Q4 := Lib.hid (HQ.out.fot n4.fo (fun b hb hp => by have := HPG.out.2 b hb; subst this; exact HD.out _ HPG.out.1 hp) HP.out.ty)
            have HD4 : Hid (∀ b, p b → ¬ q4 b) := fun b hb hp => by
              rcases n4.sub b hp with h | h
              · exact HD.out b hb h
              · exact absurd (HPL.out b hb) (by have := HWX.out; omega)
            have O4 : Hid (Ow 33 w4 (fun b => p b ∧ ¬ q1 b) (.slice (some ⟨b, off, none⟩) ls cx) ls (CS Sx)) := HO.out.fo n4.fo fun b hb hp => HD.out b hb.1 hp
            have M4 := Lib.hid (HM.out.keepq HP.out n4)
            have B4 : Hid (Below lo w w4) := HB.out.trans (HP.out.nx n4)
            have HW4 : Hid (ws ≤ w4.heap.size) := Nat.le_trans HWX.out n4.fo.size
            clear q4' n4 HQ HP HO HM HB HD HSQ
            go_wp2_with fail
            go_roundw
            case rel =>
              have Q : PR ws lo lo g2 rp rq kk c m s w p q1 Sx (some ⟨b, off, none⟩) ls cx (.int .i64 ((x : Int) + 1)) w4 := ⟨⟨x + 1, q4, HX.out, by go_num, HW4.out, Q4.out, P4.out, HD4.out, O4.out, M4.out, B4.out⟩⟩
              first | exact Q | ((repeat apply Exists.intro); exact ⟨Q, rfl⟩)
            case measure => have := HX.out; simp [intOf]; omega

        have hb3 : (x0.tmod 4 == 3) = false := by rw [beq_eq_false_iff_ne]; exact h3
        clear h0 h1 h2 h3
        go_wp2_with fail
        go_meet
        case rel => exact ⟨⟨c, m, s, p, p2, rfl, rfl, by have := HS.out; omega, HC.out⟩⟩
      case rest =>
        obtain ⟨w5, hw5⟩ : ∃ w', w' = wc := ⟨_, rfl⟩
        subst hw5
        obtain ⟨⟨c, m, s, p, p2, rfl, rfl, hsi, hch⟩⟩ := hcut
        have C5 := Lib.hid hch
        have HS5 : Hid (s ≤ i + 1) := hsi
        have hle := hch.le
        have hs101 : (s : Int) ≤ 101 := by have := HX.out; omega
        have hcs1 : (c : Int) ≤ (s : Int) := by omega
        clear hch hsi HC e0 HLS HLQ HLSS HPL HS
        obtain ⟨ls', hls'⟩ : ∃ ls, s - m = ls := ⟨_, rfl⟩
        obtain ⟨lq', hlq'⟩ : ∃ lq, m - c = lq := ⟨_, rfl⟩
        have HL5 : Hid (s - m = ls' ∧ m - c = lq') := ⟨hls', hlq'⟩
        have hsum : (ls' : Int) + (lq' : Int) = (s : Int) - (c : Int) := by omega
        have hl5 : (ls' : Int) ≤ 101 := by omega
        have hq5 : (lq' : Int) ≤ 101 := by omega
        have hsw : IntKind.u32.wrap ((s : Int) - (c : Int)) = (s : Int) - (c : Int) := IntWalk.u32_in _ ⟨by omega, by omega⟩
        have hsb : ((s : Int) - (c : Int) != (s : Int) - (c : Int)) = false := by simp
        clear hls' hlq' hle
        go_wp2_with fail
        refine (all_any lo p (fun _ => True) lo 1 (rp : Int) (seg m s) false w5 C5.out.qp).mono ?_
        rintro e w6 ⟨v6, S6, rfl, o6, m6, b6⟩
        rw [seg_len, HL5.out.1] at o6
        obtain ⟨A6, c6, rfl⟩ := o6.sl
        have C6 := Lib.hid (C5.out.below b6)
        clear o6 m6 b6 C5
        go_wp2_with fail
        refine (all_any lo p2 (fun _ => True) g2 1 (rq : Int) (seg c m) false w6 C6.out.qq).mono ?_
        rintro e w7 ⟨v7, S7, rfl, o7, m7, b7⟩
        rw [seg_len, HL5.out.2] at o7
        obtain ⟨A7, c7, rfl⟩ := o7.sl
        have C7 := Lib.hid (C6.out.below b7)
        clear o7 m7 b7 C6
        go_wp2_with fail
        go_roundw
        case rel =>
          have Q : CR lo lo g2 rp rq len w (.int .u32 (s : Int)) (.int .u32 (c : Int)) (.int .i64 ((i : Int) + 1)) w7 := ⟨⟨i + 1, c, m, s, p, p2, by have := HX.out; omega, by have := HX.out; omega, by go_num, rfl, rfl, HS5.out, C7.out⟩⟩
          first | exact Q | ((repeat apply Exists.intro); exact ⟨Q, rfl⟩)
        case measure => have := HX.out; simp [intOf]; omega

  case rest =>
    obtain ⟨w3', hw3⟩ : ∃ w', w' = wc := ⟨_, rfl⟩
    subst hw3
    obtain ⟨⟨c, m, s, p, p2, rfl, rfl, hsi, hch⟩⟩ := hcut
    have C3 := Lib.hid hch
    have HW3 : Hid (lo ≤ w3'.heap.size) := hch.qp.nil
    have hle := hch.le
    have HLE : Hid (c ≤ m ∧ m ≤ s ∧ s ≤ 100) := ⟨hle.1, hle.2, hsi⟩
    obtain ⟨i0, hi, hz0, hz1, hz2⟩ := info_of sl_info
    obtain ⟨ls, hls⟩ : ∃ ls, s - m = ls := ⟨_, rfl⟩
    obtain ⟨lq, hlq⟩ : ∃ lq, m - c = lq := ⟨_, rfl⟩
    have HL : Hid (s - m = ls ∧ m - c = lq ∧ ls ≤ 100 ∧ lq ≤ 100) := ⟨hls, hlq, by omega, by omega⟩
    clear hch hle hsi hls hlq C2
    go_wp2_with fail
    refine (all_any lo p2 (fun _ => True) g2 1 (rq : Int) (seg c m) false w3' C3.out.qq).mono ?_
    rintro e w4 ⟨v4, S4, rfl, o4, m4, b4⟩
    rw [seg_len, HL.out.2.1] at o4
    obtain ⟨A4, c4, rfl⟩ := o4.sl
    have C4 := Lib.hid (C3.out.below b4)
    have O4 := Lib.hid o4
    have M4 := Lib.hid m4
    clear o4 m4 b4 C3
    go_wp2_with fail
    refine (all_any lo p (fun _ => True) lo 1 (rp : Int) (seg m s) false w4 C4.out.qp).mono ?_
    rintro e w5 ⟨v5, S5, rfl, o5, m5, b5⟩
    rw [seg_len, HL.out.1] at o5
    obtain ⟨A5, c5, rfl⟩ := o5.sl
    have C5 := Lib.hid (C4.out.below b5)
    have O5 := Lib.hid (O4.out.below b5)
    have M5 := Lib.hid (M4.out.below b5)
    have RD : Hid (Reads w5 w5.heap.size 1 A5 ls (CS S5)) := (o5.sq.st.reads).2
    have N5 := Lib.hid m5
    clear o5 m5 b5 C4 O4 M4
    go_wp2_with (at_builtin; refine wpList_append_any _ rfl _ _ 27 rfl 0 33 i0 (.slice none 0 0) 1 24 Try.underlying27 hi hz0 hz1 hz2 rfl (by decide) _ _ _ rfl O5.out.own w5.heap.size A5 ls c5 (CS S5) rfl RD.out (CS_one _) ?c3 ?c4 ?c5 ?_)
    case c3 => have := HL.out; unfold maxLen; omega
    case c4 => have := HL.out; omega
    case c5 => omega
    intro v6 w6 hown hgrow hblk
    have G := O5.out.grow hown hgrow hblk
    obtain ⟨A6, c6, rfl⟩ := G.1.sl
    have hty : Ty w5 (fun b => (Value.slice A4 lq c4).ownBlock = some b) := fun b hb hl => by
      rcases O5.out.form with ⟨h0, _⟩ | ⟨b1, cap, cur, hv, _, _, hg1, _⟩
      · rw [h0] at hb; cases hb
      · rw [hv] at hb
        injection hb with hb
        have hb : b1 = b := hb
        subst hb
        exact ⟨_, _, _, hg1, fun e => ne_us e.symm⟩
    have hfo : Fo (fun b => (Value.slice A4 lq c4).ownBlock = some b) w5 w6 := ⟨hgrow.os, hgrow.tape, hgrow.output, hgrow.size, fun k hk hn => hgrow.block k hk (fun e => hn e.symm)⟩
    obtain ⟨lt, hlt⟩ : ∃ lt, s - c = lt := ⟨_, rfl⟩
    have hln : lq + ls = lt := by have := HL.out; have := HLE.out; omega
    rw [← CS_app] at hown
    have M6 : Hid (Ms w6 (fun b => True) (S4 ++ S5) (seg c s)) := by
      have h1 := ((M5.out.imp (q := fun _ => True) fun _ _ _ => trivial).app (N5.out.imp (q := fun _ => True) fun _ _ _ => trivial)).fot hfo hty
      rw [seg_app HLE.out.1 HLE.out.2.1] at h1; exact h1
    have O6 : Hid (Sq w6 (fun _ => True) (.slice A6 (lq + ls) c6) (lq + ls) (CS (S4 ++ S5))) := by
      have := G.1.sq
      rw [← CS_app] at this
      exact this.imp fun _ _ _ => trivial
    have B6 : Hid (Below lo w w6) := C5.out.be.trans (G.2.below (fun b hb => by have h1 := C5.out.qp.nil; have h2 : w3'.heap.size ≤ b := hb; have := HW3.out; omega) (by have := C5.out.qp.nil; omega))
    have HLT : Hid (lt = s - c ∧ lt ≤ 100) := ⟨hlt.symm, by have := HLE.out; omega⟩
    rw [hln] at O6
    simp only [hln]
    clear hown hgrow hblk G hty hfo RD M5 N5 O5 C5 hln hlt
    have hcl : (c : Int) ≤ 100 := by have := HLE.out; omega
    have htl : (lt : Int) ≤ 100 := by have := HLT.out; omega
    go_wp2_with fail
    go_loopw [23] (fun iv wr => SR c s w6.heap.size w6 iv wr) (fun i _ => 101 - (intOf i).toNat)
    case atStart => exact ⟨⟨0, Nat.zero_le _, rfl, Below.refl _ _⟩⟩
    case round =>
      obtain ⟨⟨i, hi, rfl, hb⟩⟩ := hrel
      have HB := Lib.hid hb
      clear hb
      by_cases hlt : i < lt
      rotate_left
      · have hiI : ¬ (i : Int) < (lt : Int) := by omega
        clear hlt hi
        go_wp2_with fail
        refine (known_any wr).mono ?_
        rintro e w8 ⟨rfl, b8⟩
        have B8 : Hid (Below lo w w8) := B6.out.trans ((HB.out.trans (b8.mono HB.out.size)).mono (by have := B6.out.size; have := HLO.out; omega))
        clear b8
        go_wp2_with fail
        go_ret
        exact ⟨rfl, B8.out⟩
      have hiI : (i : Int) < (lt : Int) := by omega
      have HX : Hid (i < lt) := hlt
      obtain ⟨As, cs, L, hs, hl, hsq⟩ := M6.out.mr.get (i := i) (by rw [seg_len]; have := HLT.out; omega)
      rw [seg_get (by have := HLT.out; omega)] at hl
      injection hl with hl
      subst hl
      obtain ⟨b, off, hA, hbl, hc⟩ := sl_at O6.out hlt hs
      subst hA
      have e0 : wr.cell? ⟨b, off + i, none⟩ = some (.slice As 1 cs) := (HB.out.cell hbl).trans hc
      have HSQ : Hid (Sq w6 (fun _ => True) (.slice As 1 cs) 1 (CU [((c + i : Nat) : Int)])) := hsq
      have hiw : IntKind.u32.wrap (i : Int) = (i : Int) := IntWalk.u32_in _ ⟨by omega, by omega⟩
      have hcw : IntKind.u32.wrap ((c : Int) + (i : Int)) = (c : Int) + (i : Int) := IntWalk.u32_in _ ⟨by omega, by omega⟩
      have hci : ((c + i : Nat) : Int) = (c : Int) + (i : Int) := by omega
      rw [hci] at HSQ
      have L7 := Lib.hid (Sq.lit wr #[.int .u32 ((c : Int) + (i : Int))] 52 1 1 rfl)
      have hx : Below wr.heap.size wr (wr.alloc (.cells #[.int .u32 ((c : Int) + (i : Int))] 52)) := (Below.refl _ _).alloc (Nat.le_refl _) _
      have H7 := Lib.hid ((HSQ.out.belowP HB.out).belowP hx)
      have B7 : Hid (Below w6.heap.size w6 (wr.alloc (.cells #[.int .u32 ((c : Int) + (i : Int))] 52))) := HB.out.trans (hx.mono HB.out.size)
      clear hs hsq hbl hc hlt hi hx hci HB HSQ
      go_wp2_with fail
      refine (lsame_any _ _ _ _ [(c : Int) + (i : Int)] [(c : Int) + (i : Int)] _ H7.out.st L7.out.st (by simp)).mono ?_
      rintro e w8 ⟨he8, b8⟩
      simp only [decide_true] at he8
      subst he8
      have B8 : Hid (Below w6.heap.size w6 w8) := B7.out.trans (b8.mono B7.out.size)
      clear b8 L7 H7 B7
      go_wp2_with fail
      go_roundw
      case rel =>
        have Q : SR c s w6.heap.size w6 (.int .i64 ((i : Int) + 1)) w8 := ⟨⟨i + 1, by have := HX.out; have := HLT.out; omega, by go_num, B8.out⟩⟩
        first | exact Q | ((repeat apply Exists.intro); exact ⟨Q, rfl⟩)
      case measure => have := HX.out; have := HLT.out; simp [intOf]; omega
end Go.Proofs.Ytejambofnffopaa.Q
