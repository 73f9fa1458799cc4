/-
  SamplingLast's walk. Each statement bears its own conditions.
-/
import Derived.Test.YtmodkfboolmckaaSaU
namespace Go.Proofs.Ytmodkfboolmckaa.Sa
open Go.RowKit Go.Proofs.Ytmodkfboolmckaa.F Go.Proofs.Ytmodkfboolmckaa.U
set_option linter.unusedVariables false
set_option linter.unusedSimpArgs false
/-- What was written so far. -/
structure LX (lo bw g : Nat) (n k : Int) (w : World) (j : Nat) (p : Nat → Prop) (has : Bool) (M : List Int) (st now : Int) (A : Option Addr) (c : Nat) (wr : World) : Prop where
  pv : PV lo wr p g n k has M st
  ms : Sq wr (fun b => b < lo) (.slice A M.length c) M.length (CU M)
  bx : wr.heap[bw]? = some (.cells #[.int .i64 n, .int .i64 k, .bool false, .slice none 0 0, .int .i64 0] 26 (0, 0))
  nq : ¬ p bw ∧ lo ≤ bw
  be : Below lo w wr
  zero : j = 0 → has = false
  more : 0 < j → has = true ∧ st = now
  bd : 0 ≤ now ∧ now ≤ 400
theorem LX.below {lo bw g : Nat} {n k : Int} {w : World} {j : Nat} {p : Nat → Prop} {has : Bool} {M : List Int} {st now : Int} {A : Option Addr} {c : Nat} {wr w' : World} (h : LX lo bw g n k w j p has M st now A c wr) (hb : Below wr.heap.size wr w') : LX lo bw g n k w j p has M st now A c w' :=
  ⟨h.pv.below hb, h.ms.belowP hb, (hb.block bw (Array.getElem?_eq_some_iff.1 h.bx).1).trans h.bx, h.nq, h.be.trans (hb.mono h.pv.nil), h.zero, h.more, h.bd⟩
structure LR (lo bw g len : Nat) (n k : Int) (w : World) (lv nv iv : Value) (wr : World) : Prop where
  ex : ∃ (j : Nat) (p : Nat → Prop) (has : Bool) (M : List Int) (st now : Int) (A : Option Addr) (c : Nat), j ≤ len ∧ j ≤ 30 ∧ iv = .int .i64 (j : Int) ∧ lv = .slice A M.length c ∧ nv = .int .i64 now ∧ LX lo bw g n k w j p has M st now A c wr
structure LC (lo bw g len : Nat) (n k : Int) (w : World) (lv nv : Value) (wr : World) : Prop where
  ex : ∃ (j : Nat) (p : Nat → Prop) (has : Bool) (M : List Int) (st now : Int) (A : Option Addr) (c : Nat), (j = 0 ↔ len = 0) ∧ lv = .slice A M.length c ∧ nv = .int .i64 now ∧ LX lo bw g n k w j p has M st now A c wr
structure LK (lo bw g : Nat) (n k : Int) (w : World) (j : Nat) (p : Nat → Prop) (has : Bool) (M : List Int) (st now : Int) (A : Option Addr) (c : Nat) (iv : Value) (wr : World) : Prop where
  ex : ∃ i : Nat, i ≤ 2 ∧ iv = .int .i64 (i : Int) ∧ LX lo bw g n k w j p has M st now A c wr
set_option maxRecDepth 100000 in
set_option maxHeartbeats 16000000 in
theorem last_walk (a0 : Int) (a : Option Addr) (len cap : Nat) (m1 : List (List Int)) (a2 : Int) (w : World) (h0 : Row w 1 (RL w) (.slice a len cap) m1) : Calls Try.prog 4 #[.int .i64 a0, .slice a len cap, .int .i64 a2] w fun e w' => e = .returned (.bool true) ∧ Below w.heap.size w w' := by
  have HR := Lib.hid h0
  have he := he_sa
  obtain ⟨lo, hlo⟩ : ∃ lo, w.heap.size = lo := ⟨_, rfl⟩
  have HLO : Hid (lo ≤ w.heap.size ∧ w.heap.size ≤ lo) := by unfold Hid; omega
  rw [hlo]
  clear h0
  obtain ⟨q2, hq2⟩ : ∃ q, (IntKind.u64.wrap a2).tmod 3000000 = q := ⟨_, rfl⟩
  have u2 := u64_tmod a2 3000000 (by decide)
  rw [hq2] at u2
  obtain ⟨u2a, u2b⟩ := u2
  have u2c : q2 ≤ 2999999 := by omega
  have HQ2 : Hid (0 ≤ q2 ∧ q2 ≤ 2999999) := ⟨u2a, u2c⟩
  clear u2b
  go_enter Try.func4, Try.ntmps4
  go_wp2_with fail
  refine (begin_any 31 a0 w).mono ?_
  rintro e w1 ⟨n, k, g, hn, hk, rfl, q1, b1⟩
  have HNK : Hid (n = 1 + (IntKind.u64.wrap 31).tmod 32 ∧ k = (IntKind.u64.wrap a0).tmod 1048577) := ⟨hn, hk⟩
  clear hn hk
  rw [hlo] at q1 b1
  obtain ⟨bw, hbw⟩ : ∃ bw, w1.heap.size = bw := ⟨_, rfl⟩
  have hx : Below w1.heap.size w1 (w1.alloc (.cells #[.int .i64 n, .int .i64 k, .bool false, .slice none 0 0, .int .i64 0] 26)) := (Below.refl _ _).alloc (Nat.le_refl _) _
  have P2 : Hid (PS lo bw (w1.alloc (.cells #[.int .i64 n, .int .i64 k, .bool false, .slice none 0 0, .int .i64 0] 26)) (fun b => b = g) g n k false [] 0 none 0) :=
    ⟨q1.below hx, by rw [← hbw]; exact heap_alloc_new w1 _, Sq.nil _ _, fun e => by have := q1.lt; have e : bw = g := e; omega, by have := q1.nil; omega⟩
  have B2 : Hid (Below lo w (w1.alloc (.cells #[.int .i64 n, .int .i64 k, .bool false, .slice none 0 0, .int .i64 0] 26))) := b1.trans (hx.mono q1.nil)
  clear q1 b1 hx
  go_wp2_with fail
  try simp only [hbw]
  refine (told_any _).mono ?_
  rintro e w3 ⟨rfl, b3⟩
  have P3 := Lib.hid (P2.out.below b3)
  have B3 : Hid (Below lo w w3) := B2.out.trans (b3.mono P2.out.pv.nil)
  clear b3 P2 B2 hbw
  go_upto_block 0 with fail
  have HN : Hid (n = 32) := HNK.out.1.trans rfl
  go_cut [9, 10, 11] (fun lv nv iv wx => LC lo bw g len n k w lv nv wx)
  case first =>
    go_wp2_with fail
    go_loopw [9, 10, 11] (fun lv nv iv wr => LR lo bw g len n k w lv nv iv wr) (fun _ _ i _ => 30 - (intOf i).toNat)
    case atStart => exact ⟨⟨0, _, false, [], 0, 0, none, 0, Nat.zero_le _, by omega, rfl, rfl, rfl, ⟨P3.out.pv, Sq.nil _ _, P3.out.bx, P3.out.nq, B3.out, fun _ => rfl, fun h => by omega, by omega⟩⟩⟩
    case round =>
      obtain ⟨⟨j, p, has, M, st, now, A, c, hj, hj30, rfl, rfl, rfl, hlx⟩⟩ := hrel
      have HL := Lib.hid hlx
      clear hlx
      by_cases hlt : j < len
      rotate_left
      · have hjI : ¬ (j : Int) < (len : Int) := by omega
        have hjb : decide ((j : Int) < (len : Int)) = false := by simpa using hjI
        have HX : Hid (j = len) := by unfold Hid; omega
        clear hlt hj hj30
        go_wp2_with fail
        go_meet
        case rel => exact ⟨⟨j, p, has, M, st, now, A, c, by have := HX.out; omega, rfl, rfl, HL.out⟩⟩
      by_cases hcap : j < 30
      rotate_left
      · have hjI : (j : Int) < (len : Int) := by omega
        have hjb : decide ((j : Int) < (len : Int)) = true := by simpa using hjI
        have hcI : ¬ (j : Int) < 30 := by omega
        have hcb : decide ((j : Int) < 30) = false := by simpa using hcI
        have HX : Hid (30 ≤ j ∧ j < len) := by unfold Hid; omega
        clear hlt hj hcap hj30
        go_wp2_with fail
        go_meet
        case rel => exact ⟨⟨j, p, has, M, st, now, A, c, by have := HX.out; omega, rfl, rfl, HL.out⟩⟩
      have hjI : (j : Int) < (len : Int) := by omega
      have hjb : decide ((j : Int) < (len : Int)) = true := by simpa using hjI
      have hcI : (j : Int) < 30 := by omega
      have hcb : decide ((j : Int) < 30) = true := by simpa using hcI
      have HX : Hid (j < len ∧ j < 30) := ⟨hlt, hcap⟩
      obtain ⟨hlen, b, off, K, cs, hax, hbl, _, hRA, _, hc⟩ := HR.out.at_ j hlt
      clear hlen
      subst hax
      obtain ⟨v', rfl, hK⟩ := hRA
      have HBL : Hid (b < lo) := by have := HLO.out; unfold Hid; omega
      have e0 : wr.cell? ⟨b, off + j, none⟩ = some v' := by
        have := cell_low HL.out.be HBL.out (hc 0 _ rfl)
        simpa using this
      obtain ⟨Ak, ck, rfl⟩ := hK.form
      have hK2 := hK.sq.2
      obtain ⟨nk, hnk⟩ : ∃ nk, K.length = nk := ⟨_, rfl⟩
      rw [hnk] at e0 hK2
      have HNKK := Lib.hid hnk
      obtain ⟨jm, hjm⟩ : ∃ jm, min nk 32 = jm := ⟨_, rfl⟩
      have hmn : min (nk : Int) 32 = (jm : Int) := by omega
      have hj1 : (jm : Int) ≤ (ck : Int) := by have := hK2.2.1; omega
      have hj0 : (0 : Int) ≤ (jm : Int) := by omega
      have hj2 : jm ≤ ck := by have := hK2.2.1; omega
      have HKA : Hid (Ak = none → ck = 0) := hK2.2.2
      have hT := Sq_take (j := jm) hK2.1 (by omega)
      obtain ⟨KT, hKT⟩ : ∃ KT, K.take jm = KT := ⟨_, rfl⟩
      have HKT : Hid (KT.length = jm ∧ jm ≤ 32) := by rw [← hKT]; exact ⟨by rw [List.length_take]; omega, by omega⟩
      have HKS : Hid (Sq wr (fun b => b < lo) (.slice Ak jm ck) jm (CU KT)) := by
        have : (CU K).take jm = CU KT := by rw [← hKT]; simp [CU, List.map_take]
        rw [this] at hT
        exact sq_low (hT.imp fun b _ hb => by have := HLO.out; omega) HL.out.be
      clear hc hbl hlt hj hK hK2 hnk hcap hj30 hjm hT hKT
      go_wp2_with fail
      refine wp_region_held_drew (S := (fun w' => Below wr.heap.size wr w' ∧ w'.cell? ⟨b, off + j, none⟩ = some (.slice Ak nk ck))) (by kernel_rfl) ?_ (fun hHeld => ?_)
      · exact ⟨(Below.refl _ _).drew, e0⟩
      refine takeD (i := 0) (d := some 39) (v := ?_) _ rfl rfl (by kernel_rfl) (by kernel_rfl) (by kernel_rfl) (fun _ _ _ h => h) (by rfl) ?_ (by assumption) ?_
      rotate_left
      · (intro w hSw; (try dsimp only at hSw); go_simp) <;> with_reducible rfl
      try simp only [Act.put, List.setIfInBounds_toArray, List.set_cons_zero, List.set_cons_succ]
      refine takeD (i := 1) (d := some 40) (v := ?_) _ rfl rfl (by kernel_rfl) (by kernel_rfl) (by kernel_rfl) (fun _ _ _ h => h) (by rfl) ?_ (by assumption) ?_
      rotate_left
      · (intro w hSw; (try dsimp only at hSw); go_simp) <;> with_reducible rfl
      try simp only [Act.put, List.setIfInBounds_toArray, List.set_cons_zero, List.set_cons_succ]
      refine takeD (i := 2) (d := some 41) (v := ?_) _ rfl rfl (by kernel_rfl) (by kernel_rfl) (by kernel_rfl) (fun _ _ _ h => h) (by rfl) ?_ (by assumption) ?_
      rotate_left
      · (intro w hSw; (try dsimp only at hSw); go_simp) <;> with_reducible rfl
      try simp only [Act.put, List.setIfInBounds_toArray, List.set_cons_zero, List.set_cons_succ]
      refine takeD (i := 3) (d := some 42) (v := ?_) _ rfl rfl (by kernel_rfl) (by kernel_rfl) (by kernel_rfl) (fun _ _ _ h => h) (by rfl) ?_ (by assumption) ?_
      rotate_left
      · (intro w hSw; (try dsimp only at hSw); go_simp) <;> with_reducible rfl
      try simp only [Act.put, List.setIfInBounds_toArray, List.set_cons_zero, List.set_cons_succ]
      refine takeD (i := 4) (d := some 43) (v := ?_) _ rfl rfl (by kernel_rfl) (by kernel_rfl) (by kernel_rfl) (fun _ _ _ h => h) (by rfl) ?_ (by assumption) ?_
      rotate_left
      · (intro w hSw; (try dsimp only at hSw); go_simp) <;> with_reducible rfl
      try simp only [Act.put, List.setIfInBounds_toArray, List.set_cons_zero, List.set_cons_succ]
      refine takeD (i := 5) (d := some 44) (v := ?_) _ rfl rfl (by kernel_rfl) (by kernel_rfl) (by kernel_rfl) (fun _ _ _ h => h) (by rfl) ?_ (by assumption) ?_
      rotate_left
      · (intro w hSw; (try dsimp only at hSw); go_simp) <;> with_reducible rfl
      try simp only [Act.put, List.setIfInBounds_toArray, List.set_cons_zero, List.set_cons_succ]
      refine takeD (i := 6) (d := some 45) (v := ?_) _ rfl rfl (by kernel_rfl) (by kernel_rfl) (by kernel_rfl) (fun _ _ _ h => h) (by rfl) ?_ (by assumption) ?_
      rotate_left
      · (intro w hSw; (try dsimp only at hSw); go_simp) <;> with_reducible rfl
      try simp only [Act.put, List.setIfInBounds_toArray, List.set_cons_zero, List.set_cons_succ]
      refine takeD (i := 7) (d := some 46) (v := ?_) _ rfl rfl (by kernel_rfl) (by kernel_rfl) (by kernel_rfl) (fun _ _ _ h => h) (by rfl) ?_ (by assumption) ?_
      rotate_left
      · (intro w hSw; (try dsimp only at hSw); go_simp) <;> with_reducible rfl
      try simp only [Act.put, List.setIfInBounds_toArray, List.set_cons_zero, List.set_cons_succ]
      refine takeD (i := 8) (d := some 47) (v := ?_) _ rfl rfl (by kernel_rfl) (by kernel_rfl) (by kernel_rfl) (fun _ _ _ h => h) (by rfl) ?_ (by assumption) ?_
      rotate_left
      · (intro w hSw; (try dsimp only at hSw); go_simp) <;> with_reducible rfl
      try simp only [Act.put, List.setIfInBounds_toArray, List.set_cons_zero, List.set_cons_succ]
      refine takeD (i := 9) (d := some 48) (v := ?_) _ rfl rfl (by kernel_rfl) (by kernel_rfl) (by kernel_rfl) (fun _ _ _ h => h) (by rfl) ?_ (by assumption) ?_
      rotate_left
      · (intro w hSw; (try dsimp only at hSw); go_simp) <;> with_reducible rfl
      try simp only [Act.put, List.setIfInBounds_toArray, List.set_cons_zero, List.set_cons_succ]
      refine takeD (i := 10) (d := some 49) (v := ?_) _ rfl rfl (by kernel_rfl) (by kernel_rfl) (by kernel_rfl) (fun _ _ _ h => h) (by rfl) ?_ (by assumption) ?_
      rotate_left
      · (intro w hSw; (try dsimp only at hSw); go_simp) <;> with_reducible rfl
      try simp only [Act.put, List.setIfInBounds_toArray, List.set_cons_zero, List.set_cons_succ]
      refine takeD (i := 11) (d := some 12) (v := ?_) _ rfl rfl (by kernel_rfl) (by kernel_rfl) (by kernel_rfl) (fun _ _ _ h => h) (by rfl) ?_ (by assumption) ?_
      rotate_left
      · (intro w hSw; (try dsimp only at hSw); go_simp) <;> with_reducible rfl
      try simp only [Act.put, List.setIfInBounds_toArray, List.set_cons_zero, List.set_cons_succ]
      refine wpAnyH_done (by kernel_rfl) ?_ _
      have HF := Lib.hid hHeld.1
      clear hHeld e0
      obtain ⟨w2, hw2⟩ : ∃ w2, wr.drew = w2 := ⟨_, rfl⟩
      rw [hw2] at HF
      rw [hw2]
      clear hw2
      have L2 := Lib.hid (HL.out.below HF.out)
      have S2 := Lib.hid (HKS.out.belowP HF.out)
      clear HL HKS HF
      go_wp2_with fail
      have WR := write_any lo p g n k has M st _ _ KT (100 + 7 * (j : Int)) w2 L2.out.pv ⟨by omega, by omega⟩ (by rw [HKT.out.1]; exact S2.out) (by have := HKT.out; have := HN.out; omega)
      refine WR.mono ?_
      rintro e w3 ⟨q, rfl, q3, n3⟩
      have hbe := L2.out.pv.nx n3
      have L3 : Hid (LX lo bw g n k w (j + 1) q true KT (100 + 7 * (j : Int)) (100 + 7 * (j : Int)) Ak ck w3) := by
        refine ⟨q3, by rw [HKT.out.1]; exact sq_low S2.out hbe, (n3.fo.block bw (Array.getElem?_eq_some_iff.1 L2.out.bx).1 L2.out.nq.1).trans L2.out.bx, ⟨fun hq => ?_, L2.out.nq.2⟩, L2.out.be.trans hbe, fun h => by omega, fun _ => ⟨rfl, rfl⟩, by have := HX.out; omega⟩
        rcases n3.sub bw hq with h | h
        · exact L2.out.nq.1 h
        · have := (Array.getElem?_eq_some_iff.1 L2.out.bx).1; omega
      clear q3 n3 hbe L2 S2 WR
      go_wp2_with fail
      go_roundw
      case rel =>
        have Q : LR lo bw g len n k w (.slice Ak KT.length ck) (.int .i64 (100 + 7 * (j : Int))) (.int .i64 ((j : Int) + 1)) w3 := ⟨⟨j + 1, q, true, KT, _, _, Ak, ck, by have := HX.out; omega, by have := HX.out; omega, by go_num, rfl, rfl, L3.out⟩⟩
        rw [HKT.out.1] at Q
        first | exact Q | ((repeat apply Exists.intro); exact ⟨Q, rfl⟩)
      case measure => have := HX.out; simp [intOf]; omega

  case rest =>
    obtain ⟨w4, hw4⟩ : ∃ w', w' = wc := ⟨_, rfl⟩
    subst hw4
    obtain ⟨⟨j, p, has, M, st, now, A, c, hjl, rfl, rfl, hlx⟩⟩ := hcut
    have HL4 := Lib.hid hlx
    have HBD : Hid (0 ≤ now ∧ now ≤ 400 ∧ 0 ≤ q2 ∧ q2 ≤ 2999999) := ⟨hlx.bd.1, hlx.bd.2, HQ2.out.1, HQ2.out.2⟩
    have n0 : 0 ≤ now := hlx.bd.1
    have n4 : now ≤ 400 := hlx.bd.2
    clear P3 B3
    by_cases hl0 : len = 0
    · have hlb : ((len : Int) == 0) = true := by rw [beq_iff_eq]; omega
      have HZ : Hid (has = false) := hlx.zero (hjl.2 hl0)
      clear hlx hjl
      subst hl0
      go_wp2_with fail
      go_loopw [14] (fun iv wr => LK lo bw g n k w j p has M st now A c iv wr) (fun i _ => 2 - (intOf i).toNat)
      case atStart => exact ⟨⟨0, by omega, rfl, HL4.out⟩⟩
      case round =>
        obtain ⟨⟨i, hi, rfl, hlx⟩⟩ := hrel
        have HL := Lib.hid hlx
        clear hlx
        by_cases hlt : i < 2
        rotate_left
        · have hiI : ¬ (i : Int) < 2 := by omega
          clear hlt hi
          go_wp2_with fail
          go_ret
          exact ⟨rfl, HL.out.be⟩
        have hiI : (i : Int) < 2 := by omega
        have HI : Hid (i < 2) := hlt
        have x1 : wr.cell? ⟨bw, 1, none⟩ = some (.int .i64 k) := by rw [(row_cell HL.out.bx 1).1]; rfl
        clear hlt hi
        go_wp2_with fail
        refine (read_none lo p g n k has M st (now + q2) wr HL.out.pv ⟨by have := HBD.out; omega, by have := HBD.out; omega⟩ HZ.out).mono ?_
        rintro e w2 ⟨rfl, hw⟩
        have hw := hw.symm
        subst hw
        go_wp2_with fail
        go_ret
        exact ⟨rfl, HL.out.be⟩

    have hlb : ((len : Int) == 0) = false := by rw [beq_eq_false_iff_ne]; omega
    have hlc : ¬ (len : Int) = 0 := by omega
    have HZ : Hid (has = true ∧ st = now) := hlx.more (by have := hjl; omega)
    obtain ⟨tv, htv⟩ : ∃ tv, decide (q2 ≤ k) = tv := ⟨_, rfl⟩
    have HTV := Lib.hid htv
    have htt : (tv != tv) = false := by simp
    clear hlx hjl
    go_wp2_with fail
    go_loopw [14] (fun iv wr => LK lo bw g n k w j p has M st now A c iv wr) (fun i _ => 2 - (intOf i).toNat)
    case atStart => exact ⟨⟨0, by omega, rfl, HL4.out⟩⟩
    case round =>
      obtain ⟨⟨i, hi, rfl, hlx⟩⟩ := hrel
      have HL := Lib.hid hlx
      clear hlx
      by_cases hlt : i < 2
      rotate_left
      · have hiI : ¬ (i : Int) < 2 := by omega
        clear hlt hi
        go_wp2_with fail
        go_ret
        exact ⟨rfl, HL.out.be⟩
      have hiI : (i : Int) < 2 := by omega
      have HI : Hid (i < 2) := hlt
      have x1 : wr.cell? ⟨bw, 1, none⟩ = some (.int .i64 k) := by rw [(row_cell HL.out.bx 1).1]; rfl
      clear hlt hi
      go_wp2_with fail
      have RD := Lib.hid (read_any lo p g n k has M st (now + q2) wr HL.out.pv ⟨by have := HBD.out; omega, by have := HBD.out; omega⟩ HZ.out.1)
      refine RD.out.mono ?_
      rintro e w2 ⟨r, he2, o2, b2⟩
      rw [show decide (now + q2 ≤ st + k) = tv by rw [HZ.out.2, ← HTV.out]; exact decide_eq_decide.2 (by omega)] at he2
      subst he2
      have L2 := Lib.hid (HL.out.below b2)
      have O2 := Lib.hid (Ow.of_own o2)
      obtain ⟨A2, c2, rfl⟩ := slice_form o2
      have x2 : w2.cell? ⟨bw, 1, none⟩ = some (.int .i64 k) := by rw [(row_cell L2.out.bx 1).1]; rfl
      have RW := Lib.hid (rwords_any _ _ (.slice A2 M.length c2) (.slice A M.length c) M M w2 O2.out.sq.st L2.out.ms.st (by have := L2.out.pv.nl; omega))
      clear o2 b2 HL RD x1
      go_wp2_with fail
      refine RW.out.mono ?_
      rintro e w3 ⟨he3, b3⟩
      simp only [decide_true] at he3
      subst he3
      have L3 := Lib.hid (L2.out.below b3)
      have x3 : w3.cell? ⟨bw, 1, none⟩ = some (.int .i64 k) := by rw [(row_cell L3.out.bx 1).1]; rfl
      clear b3 L2 O2 RW x2
      go_wp2_with fail
      go_roundw
      case rel =>
        have Q : LK lo bw g n k w j p has M st now A c (.int .i64 ((i : Int) + 1)) w3 := ⟨⟨i + 1, HI.out, by go_num, L3.out⟩⟩
        first | exact Q | ((repeat apply Exists.intro); exact ⟨Q, rfl⟩)
      case measure => have := HI.out; simp [intOf]; omega
end Go.Proofs.Ytmodkfboolmckaa.Sa
