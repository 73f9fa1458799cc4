/-
  The walk of DeltaPlays. Each statement bears its own conditions.
-/
import Derived.Test.YtnobfmdjnldfpaaTold
import Derived.Test.YtnobfmdjnldfpaaRDue
namespace Go.Proofs.Ytnobfmdjnldfpaa
open Go.RowKit
set_option linter.unusedVariables false
set_option linter.unusedSimpArgs false
/-- The reference's list in memory, apart from the timers. -/
structure MR (w : World) (base g rb : Nat) (A : Option Addr) (k c : Nat) (m : List (Int × Int)) : Prop where
  own : w.ownsRow base 66 2 (.slice A k c) k (C m)
  len : m.length = k
  away : ∀ q, A = some ⟨q, 0, none⟩ → q ≠ g ∧ q ≠ rb
theorem MR.reads {w : World} {base g rb k c : Nat} {A : Option Addr} {m : List (Int × Int)} (h : MR w base g rb A k c m) : Reads w w.heap.size 2 A k (C m) := Reads.of_own h.own
theorem MR.move {w w' : World} {base g rb g' rb' k c : Nat} {A : Option Addr} {m : List (Int × Int)} (h : MR w base g rb A k c m) (hs : ∀ q, q < w.heap.size → q ≠ g → q ≠ rb → w'.heap[q]? = w.heap[q]?) (ha : ∀ q, q < w.heap.size → q ≠ g → q ≠ rb → q ≠ g' ∧ q ≠ rb') : MR w' base g' rb' A k c m := by
  cases A with
  | none =>
    refine ⟨⟨h.own.1, ?_⟩, h.len, fun q e => by cases e⟩
    rcases h.own.2 with h1 | ⟨_, _, _, h1, _⟩
    · exact .inl h1
    · cases h1
  | some a =>
    rcases h.own.2 with ⟨h1, _⟩ | ⟨q, _, _, h1, _⟩
    · cases h1
    · injection h1 with h1
      injection h1 with h1
      subst h1
      obtain ⟨a1, a2⟩ := h.away q rfl
      have hq := (h.own.lt q rfl).2
      refine ⟨own_at h.own (hs q hq a1 a2), h.len, fun q' e => ?_⟩
      injection e with e
      injection e with e
      subst e
      exact ha q hq a1 a2
structure DB (w : World) (p : Nat) (kj mj tj : Int) : Prop where
  d0 : w.cell? ⟨p, 0, none⟩ = some (.int .u8 kj)
  d1 : w.cell? ⟨p, 1, none⟩ = some (.int .i64 mj)
  d2 : w.cell? ⟨p, 2, none⟩ = some (.int .i64 tj)
theorem DB.keep {w w' : World} {p : Nat} {kj mj tj : Int} (h : DB w p kj mj tj) (hb : w'.heap[p]? = w.heap[p]?) : DB w' p kj mj tj :=
  ⟨(World.cell?_of_block (a := ⟨p, 0, none⟩) hb).trans h.d0, (World.cell?_of_block (a := ⟨p, 1, none⟩) hb).trans h.d1, (World.cell?_of_block (a := ⟨p, 2, none⟩) hb).trans h.d2⟩
structure St (w0 : World) (g rb : Nat) (A : Option Addr) (k c : Nat) (m : List (Int × Int)) (p : Nat) (kj mj tj : Int) (w : World) (L : List (Int × Int)) : Prop where
  tf : TF w g rb L
  mr : MR w w0.heap.size g rb A k c m
  db : DB w p kj mj tj
  pg : p ≠ g
  prb : p ≠ rb
  bel : Below w0.heap.size w0 w
  hg : w0.heap.size ≤ g
  hrb : w0.heap.size ≤ rb
section
variable {w0 w w' : World} {g rb k c p : Nat} {A : Option Addr} {m L : List (Int × Int)} {kj mj tj : Int}
theorem St.plt (h : St w0 g rb A k c m p kj mj tj w L) : p < w.heap.size := World.block_lt_of_cell? _ _ h.db.d0
theorem St.below (h : St w0 g rb A k c m p kj mj tj w L) (b : Below w.heap.size w w') : St w0 g rb A k c m p kj mj tj w' L :=
  ⟨h.tf.below b, h.mr.move (fun q hq _ _ => b.block q hq) (fun q _ a1 a2 => ⟨a1, a2⟩), h.db.keep (b.block p h.plt), h.pg, h.prb, h.bel.trans (b.mono h.bel.size), h.hg, h.hrb⟩
theorem St.ch {rb' : Nat} {L' : List (Int × Int)} (h : St w0 g rb A k c m p kj mj tj w L) (cc : Ch g rb w w') (t : TF w' g rb' L') (r : rb' = rb ∨ w.heap.size ≤ rb') : St w0 g rb' A k c m p kj mj tj w' L' :=
  ⟨t, h.mr.move (fun q hq a1 a2 => cc.block q hq a1 a2) (fun q hq a1 a2 => ⟨a1, by rcases r with r | r <;> omega⟩), h.db.keep (cc.block p h.plt h.pg h.prb), h.pg, by have := h.plt; have := h.prb; rcases r with r | r <;> omega, h.bel.trans (cc.below h.hg h.hrb h.bel.size), h.hg, by have := h.hrb; have := h.bel.size; rcases r with r | r <;> omega⟩
theorem St.new {A' : Option Addr} {k' c' : Nat} {m' : List (Int × Int)} (h : St w0 g rb A k c m p kj mj tj w L) (o : w'.ownsRow w.heap.size 66 2 (.slice A' k' c') k' (C m')) (b : Below w.heap.size w w') (hl : m'.length = k') : St w0 g rb A' k' c' m' p kj mj tj w' L :=
  ⟨h.tf.below b, ⟨own_keepI o h.bel.size (fun _ _ _ => rfl), hl, fun q e => by
    subst e
    have := (o.lt q rfl).1
    have := h.tf.lt; have := h.tf.rlt
    omega⟩, h.db.keep (b.block p h.plt), h.pg, h.prb, h.bel.trans (b.mono h.bel.size), h.hg, h.hrb⟩
theorem St.other {g' rb' : Nat} {L' : List (Int × Int)} (h : St w0 g' rb' A k c m p kj mj tj w L) (h' : St w0 g rb A k c m p kj mj tj w L') (cc : Ch g rb w w') (n1 : g' ≠ g) (n2 : g' ≠ rb) (n3 : rb' ≠ g) (n4 : rb' ≠ rb) : St w0 g' rb' A k c m p kj mj tj w' L :=
  ⟨h.tf.ch cc n1 n2 n3 n4, ⟨(h'.mr.move (w' := w') (g' := g) (rb' := rb) (fun q hq a1 a2 => cc.block q hq a1 a2) (fun q _ a1 a2 => ⟨a1, a2⟩)).own, h.mr.len, h.mr.away⟩, h.db.keep (cc.block p h.plt h'.pg h'.prb), h.pg, h.prb, h.bel.trans (cc.below h'.hg h'.hrb h.bel.size), h.hg, h.hrb⟩
theorem St.copy {g' rb' : Nat} {L' : List (Int × Int)} (h : St w0 g rb A k c m p kj mj tj w L) (b : Below w.heap.size w w') (t : TF w' g' rb' L') (hg' : w.heap.size ≤ g') (hrb' : w.heap.size ≤ rb') : St w0 g' rb' A k c m p kj mj tj w' L' :=
  ⟨t, h.mr.move (fun q hq _ _ => b.block q hq) (fun q hq _ _ => ⟨by omega, by omega⟩), h.db.keep (b.block p h.plt), by have := h.plt; omega, by have := h.plt; omega, h.bel.trans (b.mono h.bel.size), by have := h.bel.size; omega, by have := h.bel.size; omega⟩
end
structure PlRel (n : Nat) (w : World) (v3 v4 iv : Value) (wr : World) : Prop where
  ex : ∃ (j g rb : Nat) (A : Option Addr) (k c : Nat) (m : List (Int × Int)), j ≤ n ∧ v3 = .pointer (some ⟨g, 0, none⟩) ∧ v4 = .slice A k c ∧ iv = .int .i64 (j : Int) ∧ TF wr g rb (ord m) ∧ MR wr w.heap.size g rb A k c m ∧ Dst m ∧ k ≤ j ∧ Below w.heap.size w wr ∧ w.heap.size ≤ g ∧ w.heap.size ≤ rb
set_option maxRecDepth 100000 in
set_option maxHeartbeats 8000000 in
theorem plays_walk (a : Option Addr) (len cap : Nat) (w : World) (h0 : DeedRow w a len) (hlen : len ≤ maxLen) :
    Calls Try.prog 3 #[.slice a len cap] w fun e w' => e = .returned (.bool true) ∧ Below w.heap.size w w' := by
  have SP := Lib.hid (speaks_any w)
  have H0 := Lib.hid h0
  by_cases h40 : len ≤ 60
  · have h4I : ¬ (60 : Int) < (len : Int) := by omega
    have HN : Hid (len ≤ 60) := h40
    clear h0 hlen h40
    go_enter Try.func3, Try.ntmps3
    go_wp2_with fail
    refine SP.out.mono ?_
    rintro e w1 ⟨rfl, b1⟩
    have B1 := Lib.hid b1
    clear b1 SP
    go_wp2_with fail
    obtain ⟨g, hG⟩ : ∃ g, w1.heap.size = g := ⟨_, rfl⟩
    have he : ∀ (x : Nat) (w : World), (binOp .eql 24 (.pointer (some ⟨x, 0, none⟩)) (.pointer none)).run Try.prog w = .ok (.bool false) w := fun _ _ => rfl
    have NE := Lib.hid (new_any w1)
    have HG : Hid (w.heap.size ≤ g) := by unfold Hid; have := B1.out.size; omega
    rw [hG] at NE
    refine NE.out.mono ?_
    rintro e w0 ⟨rfl, h0, b0⟩
    rw [← hG] at b0
    have Z0 := Lib.hid h0
    have B0 := Lib.hid (B1.out.trans (b0.mono B1.out.size))
    clear h0 b0 NE hG
    go_wp2_with fail
    go_loopw [3, 4, 23] (fun v3 v4 i wr => PlRel len w v3 v4 i wr) (fun _ _ i => fun _ => 1001 - (intOf i).toNat)
    case atStart => exact ⟨⟨0, g, g, none, 0, 0, [], Nat.zero_le _, rfl, rfl, rfl, Z0.out, ⟨World.ownsRow_nil _ _ _ _, rfl, fun q e => by cases e⟩, List.nodup_nil, Nat.le_refl _, B0.out, HG.out, HG.out⟩⟩
    case round =>
      clear Z0 B0 HG
      obtain ⟨⟨j, g, rb, A, k, c, m, hj, rfl, rfl, rfl, ht, hm, hd, hkj, hb, hg, hrb⟩⟩ := hrel
      have HT := Lib.hid ht
      have HM := Lib.hid hm
      have HD := Lib.hid hd
      have HB := Lib.hid hb
      have HG := Lib.hid hg
      have HRB := Lib.hid hrb
      have HJ := Lib.hid hj
      have HKJ := Lib.hid hkj
      have HK1 : Hid (k ≤ 1000) := by unfold Hid; have := HN.out; omega
      have HO1 : Hid ((ord m).length ≤ 1000) := by unfold Hid; rw [ord_len, hm.len]; exact HK1.out
      clear ht hm hd hb hg hrb hj hkj
      by_cases hlt : j < len
      · obtain ⟨b, off, Kf, Mf, Tf, rfl, hc⟩ := H0.out (by omega)
        obtain ⟨c0, c1, c2, ⟨kb0, kb1⟩, _⟩ := hc j hlt
        obtain ⟨kj, hkj⟩ : ∃ x, Kf j = x := ⟨_, rfl⟩
        obtain ⟨mj, hmj⟩ : ∃ x, Mf j = x := ⟨_, rfl⟩
        obtain ⟨tj, htj⟩ : ∃ x, Tf j = x := ⟨_, rfl⟩
        rw [hkj] at c0 kb0 kb1
        rw [hmj] at c1
        rw [htj] at c2
        have d0 := cell_later HB.out c0
        have d1 := cell_later HB.out c1
        have d2 := cell_later HB.out c2
        have hjI : (j : Int) < (len : Int) := by omega
        have hj2 : (j : Int) < 1000 := by have := HN.out; omega
        have HX : Hid (j < len) := hlt
        clear hc hkj hmj htj c0 c1 c2 hlt
        by_cases h128 : (128 : Int) ≤ kj
        · have h12 : decide ((128 : Int) ≤ kj) = true := decide_eq_true h128
          clear h128
          have BA : Below wr.heap.size wr (wr.alloc (.cells #[.int .u8 kj, .int .i64 mj, .int .i64 tj] 28)) := (Below.refl _ _).alloc (Nat.le_refl _) _
          have ST0 : Hid (St w g rb A k c m wr.heap.size kj mj tj (wr.alloc (.cells #[.int .u8 kj, .int .i64 mj, .int .i64 tj] 28)) (ord m)) := by
            refine ⟨HT.out.below BA, HM.out.move (fun q hq _ _ => BA.block q hq) (fun q _ a1 a2 => ⟨a1, a2⟩), ⟨?_, ?_, ?_⟩, by have := HT.out.lt; omega, by have := HT.out.rlt; omega, HB.out.trans (BA.mono HB.out.size), HG.out, HRB.out⟩
            · rw [World.cell?_alloc_new]; rfl
            · rw [World.cell?_alloc_new]; rfl
            · rw [World.cell?_alloc_new]; rfl
          clear BA HT HM HB HG HRB
          go_wp2_with fail
          refine (tclone_any g rb (ord m) _ ST0.out.tf HO1.out).mono ?_
          rintro e w2 ⟨g', rb', rfl, hc2, hg', hrb', b2⟩
          have ST1 := Lib.hid (ST0.out.copy b2 hc2 hg' hrb')
          have STa := Lib.hid (ST0.out.below b2)
          have NE1 : Hid (g' ≠ g ∧ g' ≠ rb ∧ rb' ≠ g ∧ rb' ≠ rb) := by
            unfold Hid; have := ST0.out.tf.lt; have := ST0.out.tf.rlt; omega
          clear hc2 hg' hrb' b2 ST0 d0 d1 d2
          obtain ⟨d0, d1, d2⟩ := ST1.out.db
          go_wp2_with fail
          refine (tsame_any g' rb' g rb (ord m) (ord m) w2 ST1.out.tf STa.out.tf HO1.out HO1.out).mono ?_
          rintro e w3 ⟨rfl, b3⟩
          rw [decide_eq_true rfl]
          have ST3 := Lib.hid (ST1.out.below b3)
          have STa3 := Lib.hid (STa.out.below b3)
          clear b3 ST1 STa d0 d1 d2
          obtain ⟨d0, d1, d2⟩ := ST3.out.db
          go_wp2_with fail
          refine (set_any g rb mj tj (ord m) w3 STa3.out.tf (del_srt (ord_srt m) mj) HO1.out).mono ?_
          rintro e w4 ⟨rb4, rfl, t4, r4, c4⟩
          have ST4 := Lib.hid (ST3.out.other STa3.out c4 NE1.out.1 NE1.out.2.1 NE1.out.2.2.1 NE1.out.2.2.2)
          have STa4 := Lib.hid (STa3.out.ch c4 t4 r4)
          have NE4 : Hid (g' ≠ g ∧ g' ≠ rb4 ∧ rb' ≠ g ∧ rb' ≠ rb4) := by
            unfold Hid; have := NE1.out; have := ST3.out.tf.lt; have := ST3.out.tf.rlt; omega
          clear t4 r4 c4 ST3 STa3 d0 d1 d2 NE1
          obtain ⟨d0, d1, d2⟩ := ST4.out.db
          go_wp2_with fail
          refine (due_any g rb4 tj (setL (ord m) mj tj) w4 STa4.out.tf (setL_srt (ord_srt m) mj tj) (by have := setL_len (ord m) mj tj; have := HKJ.out; have := ST4.out.mr.len; have := ord_len m; have := HN.out; have := HX.out; omega)).mono ?_
          rintro e w5 ⟨A5, c5, rfl, o5, t5, h5⟩
          have ST5 := Lib.hid (ST4.out.other STa4.out h5 NE4.out.1 NE4.out.2.1 NE4.out.2.2.1 NE4.out.2.2.2)
          clear o5 t5 h5 ST4 STa4 d0 d1 d2 NE4
          by_cases s2 : kj % 4 = 2
          · have s2B : (kj % 4 == 2) = true := by rw [beq_iff_eq]; exact s2
            obtain ⟨d0, d1, d2⟩ := ST5.out.db
            go_wp2_with fail
            refine (rat_any A k c mj m w5 w5.heap.size ST5.out.mr.reads ST5.out.mr.len HK1.out (Nat.le_refl _)).mono ?_
            rintro e w6 ⟨rfl, b6⟩
            have ST6 := Lib.hid (ST5.out.below b6)
            clear b6 d0 d1 d2
            obtain ⟨d0, d1, d2⟩ := ST6.out.db
            go_wp2_with fail
            refine (drop_any g' rb' mj (ord m) w6 ST6.out.tf HO1.out).mono ?_
            rintro e w7 ⟨rfl, t7, c7⟩
            rw [(at_ord HD.out mj).1]
            have ST7 : Hid (St w g' rb' A k c m wr.heap.size kj mj tj w7 (del (ord m) mj)) := ST6.out.ch c7 t7 (.inl rfl)
            obtain ⟨bv, hbv⟩ : ∃ b, hasB m mj = b := ⟨_, rfl⟩
            rw [hbv]
            clear t7 c7 d0 d1 d2 hbv
            obtain ⟨d0, d1, d2⟩ := ST7.out.db
            go_wp2_with fail
            refine (rdrop_any A k c mj m w7 w7.heap.size ST7.out.mr.reads ST7.out.mr.len HK1.out (Nat.le_refl _)).mono ?_
            rintro e w9 ⟨A9, c9, rfl, o9, b9⟩
            have HD9 : Hid (Dst (cut m mj)) := cut_dst HD.out mj
            have HK9 : Hid ((cut m mj).length ≤ j + 1) := by unfold Hid; have := cut_len m mj; have := ST7.out.mr.len; have := HKJ.out; omega
            have ST9 : Hid (St w g' rb' A9 (cut m mj).length c9 (cut m mj) wr.heap.size kj mj tj w9 (ord (cut m mj))) := by unfold Hid; rw [ord_cut HD.out]; exact ST7.out.new o9 b9 rfl
            obtain ⟨m9, hm9⟩ : ∃ m9, cut m mj = m9 := ⟨_, rfl⟩
            rw [hm9] at ST9 HD9 HK9 ⊢
            obtain ⟨k9, hk9⟩ : ∃ k9, m9.length = k9 := ⟨_, rfl⟩
            rw [hk9] at ST9 HK9 ⊢
            clear o9 b9 d0 d1 d2 ST6 ST7 ST5 hm9 hk9
            obtain ⟨d0, d1, d2⟩ := ST9.out.db
            go_wp2_with fail
            refine (told_any g' rb' A9 k9 c9 mj m9 w9 w9.heap.size ST9.out.tf ST9.out.mr.reads ST9.out.mr.len HD9.out (by have := HK9.out; have := HN.out; omega) (Nat.le_refl _)).mono ?_
            rintro e w10 ⟨rfl, b10⟩
            have ST10 := Lib.hid (ST9.out.below b10)
            obtain ⟨d0, d1, d2⟩ := ST10.out.db
            clear b10
            go_wp2_with fail
            refine (told_any g' rb' A9 k9 c9 tj m9 w10 w10.heap.size ST10.out.tf ST10.out.mr.reads ST10.out.mr.len HD9.out (by have := HK9.out; have := HN.out; omega) (Nat.le_refl _)).mono ?_
            rintro e w11 ⟨rfl, b11⟩
            have ST11 := Lib.hid (ST10.out.below b11)
            clear b11 d0 d1 d2 ST9 ST10
            go_wp2_with fail
            go_roundw
            case rel =>
              have Q : PlRel len w (.pointer (some ⟨g', 0, none⟩)) (.slice A9 k9 c9) (.int .i64 ((j : Int) + 1)) w11 := ⟨⟨j + 1, g', rb', A9, k9, c9, m9, HX.out, rfl, rfl, by go_num, ST11.out.tf, ST11.out.mr, HD9.out, HK9.out, ST11.out.bel, ST11.out.hg, ST11.out.hrb⟩⟩
              first | exact Q | ((repeat apply Exists.intro); exact ⟨Q, rfl⟩)
            case measure => have := HX.out; have := HN.out; simp [intOf]; omega
          · by_cases s3 : kj % 4 = 3
            · have s2B : (kj % 4 == 2) = false := by rw [beq_eq_false_iff_ne]; exact s2
              have s3B : (kj % 4 == 3) = true := by rw [beq_iff_eq]; exact s3
              obtain ⟨d0, d1, d2⟩ := ST5.out.db
              go_wp2_with fail
              refine (rdue_any A k c tj m w5 w5.heap.size ST5.out.mr.reads ST5.out.mr.len HK1.out (Nat.le_refl _)).mono ?_
              rintro e w6 ⟨A6, c6, A7, c7, rfl, o6, o7, b6⟩
              have ST6 : Hid (St w g' rb' A6 (lateF tj m).length c6 (lateF tj m) wr.heap.size kj mj tj w6 (ord m)) := ST5.out.new o6 b6 rfl
              have O7 := Lib.hid o7
              have NW : Hid (g' < w5.heap.size ∧ rb' < w5.heap.size) := ⟨ST5.out.tf.lt, ST5.out.tf.rlt⟩
              rw [show dueF tj (ord m) = (ord m).take (cnt (ord m) tj) from (take_filter (ord_srt m) tj).1] at O7 ⊢
              have HQ : Hid (((ord m).take (cnt (ord m) tj)).length = cnt (ord m) tj) := by unfold Hid; rw [List.length_take]; have := cnt_le (ord m) tj; omega
              rw [HQ.out] at O7 ⊢
              clear o6 o7 b6 d0 d1 d2
              obtain ⟨d0, d1, d2⟩ := ST6.out.db
              go_wp2_with fail
              refine (due_any g' rb' tj (ord m) w6 ST6.out.tf (ord_srt m) HO1.out).mono ?_
              rintro e w7 ⟨A8, c8, rfl, o8, t8, h8⟩
              have R8 := Lib.hid (Reads.of_own o8)
              have O7' := Lib.hid (own_keepI (w' := w7) O7.out (Nat.le_refl _) (fun b b1 b2 => h8.block b b2 (by have := NW.out; omega) (by have := NW.out; omega)))
              have ST7 : Hid (St w g' rb' A6 (lateF tj m).length c6 (lateF tj m) wr.heap.size kj mj tj w7 ((ord m).drop (cnt (ord m) tj))) := ST6.out.ch h8 t8 (.inl rfl)
              clear o8 t8 h8 d0 d1 d2
              go_wp2_with fail
              refine (isame_true A8 A7 (cnt (ord m) tj) c8 c7 (((ord m).take (cnt (ord m) tj)).map Prod.fst) w7 w7.heap.size w7.heap.size R8.out (Reads.of_own O7'.out) (Nat.le_trans (cnt_le _ _) HO1.out) (Nat.le_refl _) (Nat.le_refl _)).mono ?_
              rintro e w9 ⟨rfl, b9⟩
              have HD9 : Hid (Dst (lateF tj m)) := List.Nodup.sublist (List.filter_sublist.map _) HD.out
              have HK9 : Hid ((lateF tj m).length ≤ j + 1) := by unfold Hid; have := lateF_len tj m; have := ST5.out.mr.len; have := HKJ.out; omega
              have ST9 : Hid (St w g' rb' A6 (lateF tj m).length c6 (lateF tj m) wr.heap.size kj mj tj w9 (ord (lateF tj m))) := by
                unfold Hid lateF; rw [left_ord]; exact ST7.out.below b9
              obtain ⟨m9, hm9⟩ : ∃ m9, lateF tj m = m9 := ⟨_, rfl⟩
              rw [hm9] at ST9 HD9 HK9 ⊢
              obtain ⟨k9, hk9⟩ : ∃ k9, m9.length = k9 := ⟨_, rfl⟩
              rw [hk9] at ST9 HK9 ⊢
              obtain ⟨A9, hA9⟩ : ∃ A9, A6 = A9 := ⟨_, rfl⟩
              obtain ⟨c9, hc9⟩ : ∃ c9, c6 = c9 := ⟨_, rfl⟩
              subst hA9 hc9
              clear b9 ST6 ST7 ST5 hm9 hk9 O7 O7' R8
              obtain ⟨d0, d1, d2⟩ := ST9.out.db
              go_wp2_with fail
              refine (told_any g' rb' A6 k9 c6 mj m9 w9 w9.heap.size ST9.out.tf ST9.out.mr.reads ST9.out.mr.len HD9.out (by have := HK9.out; have := HN.out; omega) (Nat.le_refl _)).mono ?_
              rintro e w10 ⟨rfl, b10⟩
              have ST10 := Lib.hid (ST9.out.below b10)
              obtain ⟨d0, d1, d2⟩ := ST10.out.db
              clear b10
              go_wp2_with fail
              refine (told_any g' rb' A6 k9 c6 tj m9 w10 w10.heap.size ST10.out.tf ST10.out.mr.reads ST10.out.mr.len HD9.out (by have := HK9.out; have := HN.out; omega) (Nat.le_refl _)).mono ?_
              rintro e w11 ⟨rfl, b11⟩
              have ST11 := Lib.hid (ST10.out.below b11)
              clear b11 d0 d1 d2 ST9 ST10
              go_wp2_with fail
              go_roundw
              case rel =>
                have Q : PlRel len w (.pointer (some ⟨g', 0, none⟩)) (.slice A6 k9 c6) (.int .i64 ((j : Int) + 1)) w11 := ⟨⟨j + 1, g', rb', A6, k9, c6, m9, HX.out, rfl, rfl, by go_num, ST11.out.tf, ST11.out.mr, HD9.out, HK9.out, ST11.out.bel, ST11.out.hg, ST11.out.hrb⟩⟩
                first | exact Q | ((repeat apply Exists.intro); exact ⟨Q, rfl⟩)
              case measure => have := HX.out; have := HN.out; simp [intOf]; omega
            · have s2B : (kj % 4 == 2) = false := by rw [beq_eq_false_iff_ne]; exact s2
              have s3B : (kj % 4 == 3) = false := by rw [beq_eq_false_iff_ne]; exact s3
              obtain ⟨d0, d1, d2⟩ := ST5.out.db
              go_wp2_with fail
              refine (set_any g' rb' mj tj (ord m) w5 ST5.out.tf (del_srt (ord_srt m) mj) HO1.out).mono ?_
              rintro e w7 ⟨rb7, rfl, t7, r7, c7⟩
              have ST7 : Hid (St w g' rb7 A k c m wr.heap.size kj mj tj w7 (setL (ord m) mj tj)) := ST5.out.ch c7 t7 r7
              clear t7 r7 c7 d0 d1 d2
              obtain ⟨d0, d1, d2⟩ := ST7.out.db
              go_wp2_with fail
              refine (rset_any A k c mj tj m w7 w7.heap.size ST7.out.mr.reads ST7.out.mr.len HK1.out (Nat.le_refl _)).mono ?_
              rintro e w9 ⟨A9, c9, rfl, o9, b9⟩
              have HD9 : Hid (Dst (mset m mj tj)) := mset_dst HD.out mj tj
              have HK9 : Hid ((mset m mj tj).length ≤ j + 1) := by unfold Hid; have := mset_len m mj tj; have := ST7.out.mr.len; have := HKJ.out; omega
              have ST9 : Hid (St w g' rb7 A9 (mset m mj tj).length c9 (mset m mj tj) wr.heap.size kj mj tj w9 (ord (mset m mj tj))) := by unfold Hid; rw [ord_mset HD.out]; exact ST7.out.new o9 b9 rfl
              obtain ⟨m9, hm9⟩ : ∃ m9, mset m mj tj = m9 := ⟨_, rfl⟩
              rw [hm9] at ST9 HD9 HK9 ⊢
              obtain ⟨k9, hk9⟩ : ∃ k9, m9.length = k9 := ⟨_, rfl⟩
              rw [hk9] at ST9 HK9 ⊢
              clear o9 b9 d0 d1 d2 ST7 ST5 hm9 hk9
              obtain ⟨d0, d1, d2⟩ := ST9.out.db
              go_wp2_with fail
              refine (told_any g' rb7 A9 k9 c9 mj m9 w9 w9.heap.size ST9.out.tf ST9.out.mr.reads ST9.out.mr.len HD9.out (by have := HK9.out; have := HN.out; omega) (Nat.le_refl _)).mono ?_
              rintro e w10 ⟨rfl, b10⟩
              have ST10 := Lib.hid (ST9.out.below b10)
              obtain ⟨d0, d1, d2⟩ := ST10.out.db
              clear b10
              go_wp2_with fail
              refine (told_any g' rb7 A9 k9 c9 tj m9 w10 w10.heap.size ST10.out.tf ST10.out.mr.reads ST10.out.mr.len HD9.out (by have := HK9.out; have := HN.out; omega) (Nat.le_refl _)).mono ?_
              rintro e w11 ⟨rfl, b11⟩
              have ST11 := Lib.hid (ST10.out.below b11)
              clear b11 d0 d1 d2 ST9 ST10
              go_wp2_with fail
              go_roundw
              case rel =>
                have Q : PlRel len w (.pointer (some ⟨g', 0, none⟩)) (.slice A9 k9 c9) (.int .i64 ((j : Int) + 1)) w11 := ⟨⟨j + 1, g', rb7, A9, k9, c9, m9, HX.out, rfl, rfl, by go_num, ST11.out.tf, ST11.out.mr, HD9.out, HK9.out, ST11.out.bel, ST11.out.hg, ST11.out.hrb⟩⟩
                first | exact Q | ((repeat apply Exists.intro); exact ⟨Q, rfl⟩)
              case measure => have := HX.out; have := HN.out; simp [intOf]; omega
        · have h12 : decide ((128 : Int) ≤ kj) = false := decide_eq_false h128
          clear h128
          have BA : Below wr.heap.size wr (wr.alloc (.cells #[.int .u8 kj, .int .i64 mj, .int .i64 tj] 28)) := (Below.refl _ _).alloc (Nat.le_refl _) _
          have ST0 : Hid (St w g rb A k c m wr.heap.size kj mj tj (wr.alloc (.cells #[.int .u8 kj, .int .i64 mj, .int .i64 tj] 28)) (ord m)) := by
            refine ⟨HT.out.below BA, HM.out.move (fun q hq _ _ => BA.block q hq) (fun q _ a1 a2 => ⟨a1, a2⟩), ⟨?_, ?_, ?_⟩, by have := HT.out.lt; omega, by have := HT.out.rlt; omega, HB.out.trans (BA.mono HB.out.size), HG.out, HRB.out⟩
            · rw [World.cell?_alloc_new]; rfl
            · rw [World.cell?_alloc_new]; rfl
            · rw [World.cell?_alloc_new]; rfl
          clear BA HT HM HB HG HRB
          by_cases s2 : kj % 4 = 2
          · have s2B : (kj % 4 == 2) = true := by rw [beq_iff_eq]; exact s2
            go_wp2_with fail
            refine (rat_any A k c mj m (wr.alloc (.cells #[.int .u8 kj, .int .i64 mj, .int .i64 tj] 28)) (wr.alloc (.cells #[.int .u8 kj, .int .i64 mj, .int .i64 tj] 28)).heap.size ST0.out.mr.reads ST0.out.mr.len HK1.out (Nat.le_refl _)).mono ?_
            rintro e w6 ⟨rfl, b6⟩
            have ST6 := Lib.hid (ST0.out.below b6)
            clear b6 d0 d1 d2
            obtain ⟨d0, d1, d2⟩ := ST6.out.db
            go_wp2_with fail
            refine (drop_any g rb mj (ord m) w6 ST6.out.tf HO1.out).mono ?_
            rintro e w7 ⟨rfl, t7, c7⟩
            rw [(at_ord HD.out mj).1]
            have ST7 : Hid (St w g rb A k c m wr.heap.size kj mj tj w7 (del (ord m) mj)) := ST6.out.ch c7 t7 (.inl rfl)
            obtain ⟨bv, hbv⟩ : ∃ b, hasB m mj = b := ⟨_, rfl⟩
            rw [hbv]
            clear t7 c7 d0 d1 d2 hbv
            obtain ⟨d0, d1, d2⟩ := ST7.out.db
            go_wp2_with fail
            refine (rdrop_any A k c mj m w7 w7.heap.size ST7.out.mr.reads ST7.out.mr.len HK1.out (Nat.le_refl _)).mono ?_
            rintro e w9 ⟨A9, c9, rfl, o9, b9⟩
            have HD9 : Hid (Dst (cut m mj)) := cut_dst HD.out mj
            have HK9 : Hid ((cut m mj).length ≤ j + 1) := by unfold Hid; have := cut_len m mj; have := ST7.out.mr.len; have := HKJ.out; omega
            have ST9 : Hid (St w g rb A9 (cut m mj).length c9 (cut m mj) wr.heap.size kj mj tj w9 (ord (cut m mj))) := by unfold Hid; rw [ord_cut HD.out]; exact ST7.out.new o9 b9 rfl
            obtain ⟨m9, hm9⟩ : ∃ m9, cut m mj = m9 := ⟨_, rfl⟩
            rw [hm9] at ST9 HD9 HK9 ⊢
            obtain ⟨k9, hk9⟩ : ∃ k9, m9.length = k9 := ⟨_, rfl⟩
            rw [hk9] at ST9 HK9 ⊢
            clear o9 b9 d0 d1 d2 ST6 ST7 ST0 hm9 hk9
            obtain ⟨d0, d1, d2⟩ := ST9.out.db
            go_wp2_with fail
            refine (told_any g rb A9 k9 c9 mj m9 w9 w9.heap.size ST9.out.tf ST9.out.mr.reads ST9.out.mr.len HD9.out (by have := HK9.out; have := HN.out; omega) (Nat.le_refl _)).mono ?_
            rintro e w10 ⟨rfl, b10⟩
            have ST10 := Lib.hid (ST9.out.below b10)
            obtain ⟨d0, d1, d2⟩ := ST10.out.db
            clear b10
            go_wp2_with fail
            refine (told_any g rb A9 k9 c9 tj m9 w10 w10.heap.size ST10.out.tf ST10.out.mr.reads ST10.out.mr.len HD9.out (by have := HK9.out; have := HN.out; omega) (Nat.le_refl _)).mono ?_
            rintro e w11 ⟨rfl, b11⟩
            have ST11 := Lib.hid (ST10.out.below b11)
            clear b11 d0 d1 d2 ST9 ST10
            go_wp2_with fail
            go_roundw
            case rel =>
              have Q : PlRel len w (.pointer (some ⟨g, 0, none⟩)) (.slice A9 k9 c9) (.int .i64 ((j : Int) + 1)) w11 := ⟨⟨j + 1, g, rb, A9, k9, c9, m9, HX.out, rfl, rfl, by go_num, ST11.out.tf, ST11.out.mr, HD9.out, HK9.out, ST11.out.bel, ST11.out.hg, ST11.out.hrb⟩⟩
              first | exact Q | ((repeat apply Exists.intro); exact ⟨Q, rfl⟩)
            case measure => have := HX.out; have := HN.out; simp [intOf]; omega
          · by_cases s3 : kj % 4 = 3
            · have s2B : (kj % 4 == 2) = false := by rw [beq_eq_false_iff_ne]; exact s2
              have s3B : (kj % 4 == 3) = true := by rw [beq_iff_eq]; exact s3
              go_wp2_with fail
              refine (rdue_any A k c tj m (wr.alloc (.cells #[.int .u8 kj, .int .i64 mj, .int .i64 tj] 28)) (wr.alloc (.cells #[.int .u8 kj, .int .i64 mj, .int .i64 tj] 28)).heap.size ST0.out.mr.reads ST0.out.mr.len HK1.out (Nat.le_refl _)).mono ?_
              rintro e w6 ⟨A6, c6, A7, c7, rfl, o6, o7, b6⟩
              have ST6 : Hid (St w g rb A6 (lateF tj m).length c6 (lateF tj m) wr.heap.size kj mj tj w6 (ord m)) := ST0.out.new o6 b6 rfl
              have O7 := Lib.hid o7
              have NW : Hid (g < (wr.alloc (.cells #[.int .u8 kj, .int .i64 mj, .int .i64 tj] 28)).heap.size ∧ rb < (wr.alloc (.cells #[.int .u8 kj, .int .i64 mj, .int .i64 tj] 28)).heap.size) := ⟨ST0.out.tf.lt, ST0.out.tf.rlt⟩
              rw [show dueF tj (ord m) = (ord m).take (cnt (ord m) tj) from (take_filter (ord_srt m) tj).1] at O7 ⊢
              have HQ : Hid (((ord m).take (cnt (ord m) tj)).length = cnt (ord m) tj) := by unfold Hid; rw [List.length_take]; have := cnt_le (ord m) tj; omega
              rw [HQ.out] at O7 ⊢
              clear o6 o7 b6 d0 d1 d2
              obtain ⟨d0, d1, d2⟩ := ST6.out.db
              go_wp2_with fail
              refine (due_any g rb tj (ord m) w6 ST6.out.tf (ord_srt m) HO1.out).mono ?_
              rintro e w7 ⟨A8, c8, rfl, o8, t8, h8⟩
              have R8 := Lib.hid (Reads.of_own o8)
              have O7' := Lib.hid (own_keepI (w' := w7) O7.out (Nat.le_refl _) (fun b b1 b2 => h8.block b b2 (by have := NW.out; omega) (by have := NW.out; omega)))
              have ST7 : Hid (St w g rb A6 (lateF tj m).length c6 (lateF tj m) wr.heap.size kj mj tj w7 ((ord m).drop (cnt (ord m) tj))) := ST6.out.ch h8 t8 (.inl rfl)
              clear o8 t8 h8 d0 d1 d2
              go_wp2_with fail
              refine (isame_true A8 A7 (cnt (ord m) tj) c8 c7 (((ord m).take (cnt (ord m) tj)).map Prod.fst) w7 w7.heap.size w7.heap.size R8.out (Reads.of_own O7'.out) (Nat.le_trans (cnt_le _ _) HO1.out) (Nat.le_refl _) (Nat.le_refl _)).mono ?_
              rintro e w9 ⟨rfl, b9⟩
              have HD9 : Hid (Dst (lateF tj m)) := List.Nodup.sublist (List.filter_sublist.map _) HD.out
              have HK9 : Hid ((lateF tj m).length ≤ j + 1) := by unfold Hid; have := lateF_len tj m; have := ST0.out.mr.len; have := HKJ.out; omega
              have ST9 : Hid (St w g rb A6 (lateF tj m).length c6 (lateF tj m) wr.heap.size kj mj tj w9 (ord (lateF tj m))) := by
                unfold Hid lateF; rw [left_ord]; exact ST7.out.below b9
              obtain ⟨m9, hm9⟩ : ∃ m9, lateF tj m = m9 := ⟨_, rfl⟩
              rw [hm9] at ST9 HD9 HK9 ⊢
              obtain ⟨k9, hk9⟩ : ∃ k9, m9.length = k9 := ⟨_, rfl⟩
              rw [hk9] at ST9 HK9 ⊢
              obtain ⟨A9, hA9⟩ : ∃ A9, A6 = A9 := ⟨_, rfl⟩
              obtain ⟨c9, hc9⟩ : ∃ c9, c6 = c9 := ⟨_, rfl⟩
              subst hA9 hc9
              clear b9 ST6 ST7 ST0 hm9 hk9 O7 O7' R8
              obtain ⟨d0, d1, d2⟩ := ST9.out.db
              go_wp2_with fail
              refine (told_any g rb A6 k9 c6 mj m9 w9 w9.heap.size ST9.out.tf ST9.out.mr.reads ST9.out.mr.len HD9.out (by have := HK9.out; have := HN.out; omega) (Nat.le_refl _)).mono ?_
              rintro e w10 ⟨rfl, b10⟩
              have ST10 := Lib.hid (ST9.out.below b10)
              obtain ⟨d0, d1, d2⟩ := ST10.out.db
              clear b10
              go_wp2_with fail
              refine (told_any g rb A6 k9 c6 tj m9 w10 w10.heap.size ST10.out.tf ST10.out.mr.reads ST10.out.mr.len HD9.out (by have := HK9.out; have := HN.out; omega) (Nat.le_refl _)).mono ?_
              rintro e w11 ⟨rfl, b11⟩
              have ST11 := Lib.hid (ST10.out.below b11)
              clear b11 d0 d1 d2 ST9 ST10
              go_wp2_with fail
              go_roundw
              case rel =>
                have Q : PlRel len w (.pointer (some ⟨g, 0, none⟩)) (.slice A6 k9 c6) (.int .i64 ((j : Int) + 1)) w11 := ⟨⟨j + 1, g, rb, A6, k9, c6, m9, HX.out, rfl, rfl, by go_num, ST11.out.tf, ST11.out.mr, HD9.out, HK9.out, ST11.out.bel, ST11.out.hg, ST11.out.hrb⟩⟩
                first | exact Q | ((repeat apply Exists.intro); exact ⟨Q, rfl⟩)
              case measure => have := HX.out; have := HN.out; simp [intOf]; omega
            · have s2B : (kj % 4 == 2) = false := by rw [beq_eq_false_iff_ne]; exact s2
              have s3B : (kj % 4 == 3) = false := by rw [beq_eq_false_iff_ne]; exact s3
              go_wp2_with fail
              refine (set_any g rb mj tj (ord m) (wr.alloc (.cells #[.int .u8 kj, .int .i64 mj, .int .i64 tj] 28)) ST0.out.tf (del_srt (ord_srt m) mj) HO1.out).mono ?_
              rintro e w7 ⟨rb7, rfl, t7, r7, c7⟩
              have ST7 : Hid (St w g rb7 A k c m wr.heap.size kj mj tj w7 (setL (ord m) mj tj)) := ST0.out.ch c7 t7 r7
              clear t7 r7 c7 d0 d1 d2
              obtain ⟨d0, d1, d2⟩ := ST7.out.db
              go_wp2_with fail
              refine (rset_any A k c mj tj m w7 w7.heap.size ST7.out.mr.reads ST7.out.mr.len HK1.out (Nat.le_refl _)).mono ?_
              rintro e w9 ⟨A9, c9, rfl, o9, b9⟩
              have HD9 : Hid (Dst (mset m mj tj)) := mset_dst HD.out mj tj
              have HK9 : Hid ((mset m mj tj).length ≤ j + 1) := by unfold Hid; have := mset_len m mj tj; have := ST7.out.mr.len; have := HKJ.out; omega
              have ST9 : Hid (St w g rb7 A9 (mset m mj tj).length c9 (mset m mj tj) wr.heap.size kj mj tj w9 (ord (mset m mj tj))) := by unfold Hid; rw [ord_mset HD.out]; exact ST7.out.new o9 b9 rfl
              obtain ⟨m9, hm9⟩ : ∃ m9, mset m mj tj = m9 := ⟨_, rfl⟩
              rw [hm9] at ST9 HD9 HK9 ⊢
              obtain ⟨k9, hk9⟩ : ∃ k9, m9.length = k9 := ⟨_, rfl⟩
              rw [hk9] at ST9 HK9 ⊢
              clear o9 b9 d0 d1 d2 ST7 ST0 hm9 hk9
              obtain ⟨d0, d1, d2⟩ := ST9.out.db
              go_wp2_with fail
              refine (told_any g rb7 A9 k9 c9 mj m9 w9 w9.heap.size ST9.out.tf ST9.out.mr.reads ST9.out.mr.len HD9.out (by have := HK9.out; have := HN.out; omega) (Nat.le_refl _)).mono ?_
              rintro e w10 ⟨rfl, b10⟩
              have ST10 := Lib.hid (ST9.out.below b10)
              obtain ⟨d0, d1, d2⟩ := ST10.out.db
              clear b10
              go_wp2_with fail
              refine (told_any g rb7 A9 k9 c9 tj m9 w10 w10.heap.size ST10.out.tf ST10.out.mr.reads ST10.out.mr.len HD9.out (by have := HK9.out; have := HN.out; omega) (Nat.le_refl _)).mono ?_
              rintro e w11 ⟨rfl, b11⟩
              have ST11 := Lib.hid (ST10.out.below b11)
              clear b11 d0 d1 d2 ST9 ST10
              go_wp2_with fail
              go_roundw
              case rel =>
                have Q : PlRel len w (.pointer (some ⟨g, 0, none⟩)) (.slice A9 k9 c9) (.int .i64 ((j : Int) + 1)) w11 := ⟨⟨j + 1, g, rb7, A9, k9, c9, m9, HX.out, rfl, rfl, by go_num, ST11.out.tf, ST11.out.mr, HD9.out, HK9.out, ST11.out.bel, ST11.out.hg, ST11.out.hrb⟩⟩
                first | exact Q | ((repeat apply Exists.intro); exact ⟨Q, rfl⟩)
              case measure => have := HX.out; have := HN.out; simp [intOf]; omega
      · have hjI : ¬ (j : Int) < (len : Int) := by omega
        clear hlt
        go_wp2_with fail
        go_ret
        exact ⟨rfl, HB.out⟩
  · have h4I : (60 : Int) < (len : Int) := by omega
    clear h0 hlen h40
    go_enter Try.func3, Try.ntmps3
    go_wp2_with fail
    refine SP.out.mono ?_
    rintro e w1 ⟨rfl, b1⟩
    have SP2 := Lib.hid (speaks_any w1)
    have B1 := Lib.hid b1
    clear b1 SP
    go_wp2_with fail
    refine SP2.out.mono ?_
    rintro e w2 ⟨rfl, b2⟩
    have B2 := Lib.hid (B1.out.trans (b2.mono B1.out.size))
    clear b2 SP2
    go_wp2_with fail
    go_ret
    exact ⟨rfl, B2.out⟩
end Go.Proofs.Ytnobfmdjnldfpaa
