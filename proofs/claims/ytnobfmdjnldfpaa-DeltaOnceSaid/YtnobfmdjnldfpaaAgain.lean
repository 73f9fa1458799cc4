/-
  The walk of DeltaAgain. Each statement bears its own conditions.
-/
import Derived.Test.YtnobfmdjnldfpaaList
import Derived.Deep.Slices
import Derived.ChangeSlices
import Derived.ChangeArms
import Derived.ProofKit
import Derived.OpenShut
import Derived.ChangeOld
namespace Go.Proofs.Ytnobfmdjnldfpaa
open Go.RowKit Go.ChangeShapes Go.WideShapes Go.ChangeAt
set_option linter.unusedVariables false
set_option linter.unusedSimpArgs false
theorem three_of {H : Type} {enc : TypeId × Value → H} {P : Program} {W : World} {base : Nat} {held : Bool} {t e : TypeId} {F0 F1 F2 : Field} {k0 k1 k2 : IntKind} {fuel : Nat} {a : Option Addr} {len cap : Nat} {x : DataW H × List MemPlace}
    (ht : P.underlying t = some (.slice e)) (he : P.underlying e = some (.struct #[F0, F1, F2])) (hC : P.cellsOf e = 3) (ho : F0.offset = 0 ∧ F1.offset = 1 ∧ F2.offset = 2) (hc : P.cellsOf F0.type = 1 ∧ P.cellsOf F1.type = 1 ∧ P.cellsOf F2.type = 1)
    (h0 : P.underlying F0.type = some (.int k0)) (h1 : P.underlying F1.type = some (.int k1)) (h2 : P.underlying F2.type = some (.int k2)) (h : DataW.trod enc P W base (fun _ => true) held fuel t [.slice a len cap] = some x) :
    len ≤ maxLen ∧ (0 < len → ∃ (b off : Nat) (K M T : Nat → Int), a = some ⟨b, off, none⟩ ∧ ∀ r, r < len → W.cell? ⟨b, off + r * 3, none⟩ = some (.int k0 (K r)) ∧ W.cell? ⟨b, off + r * 3 + 1, none⟩ = some (.int k1 (M r)) ∧ W.cell? ⟨b, off + r * 3 + 2, none⟩ = some (.int k2 (T r)) ∧
      (Lit.int k0 (K r)).wf = true ∧ (Lit.int k1 (M r)).wf = true ∧ (Lit.int k2 (T r)).wf = true) := by
  rcases Go.Deep.open_slice ht h with ⟨hcs, _⟩ | ⟨y, l, c, m, n, D, Pl, hcs, _, hl, hm, hmm, _, hi⟩
  · injection hcs with hcs
    injection hcs with _ h3 _
    exact ⟨by rw [h3]; unfold maxLen; omega, fun hp => by omega⟩
  · injection hcs with hcs
    injection hcs with e1 e2 e3
    subst e1 e2 e3
    simp only [if_true] at hmm
    subst hmm
    refine ⟨Nat.le_trans hl hm, fun hp => ?_⟩
    have each : ∀ i, i < len → ∃ q : Int × Int × Int, W.cell? (y.add (i * 3)) = some (.int k0 q.1) ∧ W.cell? ((y.add (i * 3)).add 1) = some (.int k1 q.2.1) ∧ W.cell? ((y.add (i * 3)).add 2) = some (.int k2 q.2.2) ∧ (Lit.int k0 q.1).wf = true ∧ (Lit.int k1 q.2.1).wf = true ∧ (Lit.int k2 q.2.2).wf = true := by
      intro i hil
      obtain ⟨cs, hcc, ht'⟩ := hi i (by omega)
      rw [hC] at hcc
      obtain ⟨_, hlen, hat⟩ := World.cells?_some hcc
      obtain ⟨ys, n', _, _, _, hyl, hf⟩ := DataW.trod_struct he ht'
      match cs, hlen with
      | [u0, u1, u2], _ =>
        have g0 := hf 0 F0 rfl
        have g1 := hf 1 F1 rfl
        have g2 := hf 2 F2 rfl
        rw [ho.1, hc.1] at g0
        rw [ho.2.1, hc.2.1] at g1
        rw [ho.2.2, hc.2.2] at g2
        match ys, hyl with
        | [w0, w1, w2], _ =>
          obtain ⟨z0, d0, _, f0⟩ := DataW.trod_int h0 g0
          obtain ⟨z1, d1, _, f1⟩ := DataW.trod_int h1 g1
          obtain ⟨z2, d2, _, f2⟩ := DataW.trod_int h2 g2
          have c0 := hat 0 (by omega)
          have c1 := hat 1 (by omega)
          have c2 := hat 2 (by omega)
          simp at d0 d1 d2 c0 c1 c2
          subst d0 d1 d2
          exact ⟨(z0, z1, z2), by rw [show (y.add (i * 3)).add 0 = y.add (i * 3) by unfold Addr.add; simp] at c0; exact c0, c1, c2, f0, f1, f2⟩
    obtain ⟨q, hq⟩ := Go.Deep.choose_lt each
    obtain ⟨b, off, spot⟩ := y
    have e0 := (hq 0 hp).1
    have hs : spot = none := by simpa [Addr.add] using World.cell?_spot e0
    subst hs
    refine ⟨b, off, fun i => (q i).1, fun i => (q i).2.1, fun i => (q i).2.2, rfl, fun r hr => ?_⟩
    have := hq r hr
    simpa [Addr.add_lit] using this
/-- A slice of deeds. -/
def ActRow (w : World) (a : Option Addr) (len : Nat) : Prop := 0 < len → ∃ (b off : Nat) (K M T : Nat → Int), a = some ⟨b, off, none⟩ ∧
  ∀ r, r < len → w.cell? ⟨b, off + r * 3, none⟩ = some (.int .u8 (K r)) ∧ w.cell? ⟨b, off + r * 3 + 1, none⟩ = some (.int .i64 (M r)) ∧ w.cell? ⟨b, off + r * 3 + 2, none⟩ = some (.int .i64 (T r)) ∧ 0 ≤ K r ∧ K r ≤ 255
theorem actRow_of {H : Type} {enc : TypeId × Value → H} {W : World} {base : Nat} {held : Bool} {fuel : Nat} {a : Option Addr} {len cap : Nat} {x : DataW H × List MemPlace} (h : DataW.trod enc Try.prog W base (fun _ => true) held fuel 22 [.slice a len cap] = some x) : ActRow W a len ∧ len ≤ maxLen := by
  obtain ⟨h1, h2⟩ := three_of Try.underlying22 Try.underlying28 (by kernel_rfl) ⟨rfl, rfl, rfl⟩ ⟨by kernel_rfl, by kernel_rfl, by kernel_rfl⟩ Try.underlying5 Try.underlying3 Try.underlying3 h
  refine ⟨fun hp => ?_, h1⟩
  obtain ⟨b, off, K, M, T, rfl, hc⟩ := h2 hp
  exact ⟨b, off, K, M, T, rfl, fun r hr => by
    obtain ⟨a0, a1, a2, f0, _, _⟩ := hc r hr
    simp [Lit.wf] at f0
    have e1 : IntKind.u8.min = 0 := rfl
    have e2 : IntKind.u8.max = 255 := rfl
    exact ⟨a0, a1, a2, by omega, by omega⟩⟩
structure AgRel (n g : Nat) (w : World) (iv : Value) (wr : World) : Prop where
  ex : ∃ (j rb : Nat) (L : List (Int × Int)), j ≤ n ∧ iv = .int .i64 (j : Int) ∧ TF wr g rb L ∧ Srt L ∧ Dst L ∧ L.length ≤ j ∧ Below w.heap.size w wr ∧ w.heap.size ≤ rb
set_option maxRecDepth 100000 in
set_option maxHeartbeats 2000000 in
theorem again_walk (a : Option Addr) (len cap : Nat) (id at_ : Int) (w : World) (h0 : ActRow w a len) (hlen : len ≤ maxLen) :
    Calls Try.prog 6 #[.slice a len cap, .int .i64 id, .int .i64 at_] w fun e w' => e = .returned (.bool true) ∧ Below w.heap.size w w' := by
  have SP := Lib.hid (speaks_any w)
  have H0 := Lib.hid h0
  by_cases h40 : len ≤ 40
  · have h4I : ¬ (40 : Int) < (len : Int) := by omega
    have HN : Hid (len ≤ 40) := h40
    clear h0 hlen h40
    go_enter Try.func6, Try.ntmps6
    go_wp2_with fail
    refine SP.out.mono ?_
    rintro e w1 ⟨rfl, b1⟩
    have B1 := Lib.hid b1
    clear b1 SP
    go_wp2_with fail
    obtain ⟨g, hG⟩ : ∃ g, w1.heap.size = g := ⟨_, rfl⟩
    have he : ∀ (x : Nat) (w : World), (binOp .eql 24 (.pointer (some ⟨x, 0, none⟩)) (.pointer none)).run Try.prog w = .ok (.bool false) w := fun _ _ => rfl
    have NE := Lib.hid (new_any w1)
    have HG : Hid (w.heap.size ≤ g) := by unfold Hid; have := B1.out.size; omega
    rw [hG] at NE
    refine NE.out.mono ?_
    rintro e w0 ⟨rfl, h0, b0⟩
    rw [← hG] at b0
    have Z0 := Lib.hid h0
    have B0 := Lib.hid (B1.out.trans (b0.mono B1.out.size))
    clear h0 b0 NE hG
    go_wp2_with fail
    go_loopw [24] (fun i wr => AgRel len g w i wr) (fun i _ => 1001 - (intOf i).toNat)
    case atStart => exact ⟨⟨0, g, [], Nat.zero_le _, rfl, Z0.out, List.Pairwise.nil, List.nodup_nil, Nat.le_refl _, B0.out, HG.out⟩⟩
    case round =>
      obtain ⟨⟨j, rb, L, hj, rfl, ht, hs, hd, hl, hb, hrb⟩⟩ := hrel
      have HT := Lib.hid ht
      have HS := Lib.hid hs
      have HD := Lib.hid hd
      have HLn := Lib.hid hl
      have HB := Lib.hid hb
      have HRB := Lib.hid hrb
      have HJ := Lib.hid hj
      have HL1 : Hid (L.length ≤ 1000) := by unfold Hid; have := HN.out; omega
      clear ht hs hd hl hb hrb hj Z0 B0
      by_cases hlt : j < len
      · obtain ⟨b, off, Kf, Mf, Tf, rfl, hc⟩ := H0.out (by omega)
        obtain ⟨c0, c1, c2, _, _⟩ := hc j hlt
        obtain ⟨kj, hkj⟩ : ∃ x, Kf j = x := ⟨_, rfl⟩
        obtain ⟨mj, hmj⟩ : ∃ x, Mf j = x := ⟨_, rfl⟩
        obtain ⟨tj, htj⟩ : ∃ x, Tf j = x := ⟨_, rfl⟩
        rw [hkj] at c0
        rw [hmj] at c1
        rw [htj] at c2
        have d0 := cell_later HB.out c0
        have d1 := cell_later HB.out c1
        have d2 := cell_later HB.out c2
        have hjI : (j : Int) < (len : Int) := by omega
        have hj2 : (j : Int) < 1000 := by have := HN.out; omega
        have HX : Hid (j < len) := hlt
        clear hc hkj hmj htj c0 c1 c2 hlt
        go_wp2_with fail
        have BA : Below wr.heap.size wr (wr.alloc (.cells #[.int .u8 kj, .int .i64 mj, .int .i64 tj] 28)) := (Below.refl _ _).alloc (Nat.le_refl _) _
        refine (set_any g rb mj tj L _ (HT.out.below BA) (del_srt HS.out mj) HL1.out).mono ?_
        rintro e w3 ⟨rb3, rfl, t3, r3, c3⟩
        have T3 := Lib.hid t3
        have R3 : Hid (w.heap.size ≤ rb3) := by
          unfold Hid; have := HRB.out; have := HB.out.size; simp at r3; omega
        have B3 := Lib.hid ((HB.out.trans (BA.mono HB.out.size)).trans (c3.below HG.out HRB.out (by have := HB.out.size; simp; omega)))
        clear t3 r3 c3 BA
        go_wp2_with fail
        go_roundw
        case rel =>
          have Q : AgRel len g w (.int .i64 ((j : Int) + 1)) w3 := ⟨⟨j + 1, rb3, setL L mj tj, HX.out, by go_num, T3.out, setL_srt HS.out _ _, setL_dst HD.out _ _, by have := setL_len L mj tj; have := HLn.out; omega, B3.out, R3.out⟩⟩
          first | exact Q | ((repeat apply Exists.intro); exact ⟨Q, rfl⟩)
        case measure => have := HX.out; have := HN.out; simp [intOf]; omega
      · have hjI : ¬ (j : Int) < (len : Int) := by omega
        clear hlt
        go_wp2_with fail
        refine (tclone_any g rb L wr HT.out HL1.out).mono ?_
        rintro e w2 ⟨g', rb', rfl, hc2, hg', hrb', b2⟩
        have T2 := Lib.hid (HT.out.below b2)
        have C2 := Lib.hid hc2
        have N2 : Hid (g < wr.heap.size ∧ rb < wr.heap.size ∧ wr.heap.size ≤ g' ∧ wr.heap.size ≤ rb' ∧ g' < w2.heap.size ∧ rb' < w2.heap.size ∧ wr.heap.size ≤ w2.heap.size ∧ w.heap.size ≤ wr.heap.size) := ⟨HT.out.lt, HT.out.rlt, hg', hrb', hc2.lt, hc2.rlt, b2.size, HB.out.size⟩
        have B2 := Lib.hid (HB.out.trans (b2.mono HB.out.size))
        clear hc2 hg' hrb' b2 HB HT
        go_wp2_with fail
        refine (set_any g rb id at_ L w2 T2.out (del_srt HS.out id) HL1.out).mono ?_
        rintro e w3 ⟨rb3, rfl, t3, r3, c3⟩
        have T3 := Lib.hid t3
        have C3 : Hid (TF w3 g' rb' L) := C2.out.ch c3 (by have := N2.out; omega) (by have := N2.out; omega) (by have := N2.out; omega) (by have := N2.out; omega)
        have N3 : Hid ((rb3 = rb ∨ w2.heap.size ≤ rb3) ∧ rb3 < w3.heap.size ∧ w2.heap.size ≤ w3.heap.size) := ⟨r3, t3.rlt, c3.size⟩
        have B3 := Lib.hid (B2.out.trans (c3.below HG.out HRB.out B2.out.size))
        clear t3 r3 c3 T2 C2 B2
        go_wp2_with fail
        refine (drop_any g' rb' id L w3 C3.out HL1.out).mono ?_
        rintro e w4 ⟨rfl, t4, c4⟩
        have C4 := Lib.hid t4
        have T4 : Hid (TF w4 g rb3 (setL L id at_)) := T3.out.ch c4 (by have := N2.out; omega) (by have := N2.out; omega) (by have := N2.out; have := N3.out; omega) (by have := N2.out; have := N3.out; omega)
        have N4 : Hid (w3.heap.size ≤ w4.heap.size) := c4.size
        have B4 := Lib.hid (B3.out.trans (c4.below (by have := N2.out; omega) (by have := N2.out; omega) B3.out.size))
        clear t4 c4 T3 C3 B3
        go_wp2_with fail
        refine (set_any g' rb' id at_ (del L id) w4 C4.out (del_srt (del_srt HS.out id) id) (by have := del_len L id; have := HL1.out; omega)).mono ?_
        rintro e w5 ⟨rb5, rfl, t5, r5, c5⟩
        rw [setL_again HD.out] at t5
        have C5 := Lib.hid t5
        have T5 : Hid (TF w5 g rb3 (setL L id at_)) := T4.out.ch c5 (by have := N2.out; omega) (by have := N2.out; omega) (by have := N2.out; have := N3.out; omega) (by have := N2.out; have := N3.out; omega)
        have N5 : Hid ((rb5 = rb' ∨ w4.heap.size ≤ rb5) ∧ rb5 < w5.heap.size ∧ w4.heap.size ≤ w5.heap.size) := ⟨r5, t5.rlt, c5.size⟩
        have B5 := Lib.hid (B4.out.trans (c5.below (by have := N2.out; omega) (by have := N2.out; omega) B4.out.size))
        have N6 : Hid (g ≠ g' ∧ g' ≠ rb3 ∧ g ≠ rb5 ∧ rb3 ≠ rb5 ∧ w.heap.size ≤ rb3 ∧ w.heap.size ≤ rb5 ∧ w.heap.size ≤ g') := by
          have := N2.out; have := N3.out; have := N4.out; have := N5.out; have := HRB.out
          unfold Hid; omega
        have MT : Hid ((setL L id at_).length ≤ 1000) := by unfold Hid; have := setL_len L id at_; have := HLn.out; have := HN.out; have := HJ.out; omega
        have MS := Lib.hid (setL_srt HS.out id at_)
        have MA := Lib.hid (setL_at HD.out id at_)
        obtain ⟨T, hT⟩ : ∃ T, setL L id at_ = T := ⟨_, rfl⟩
        rw [hT] at C5 T5 MT MS MA
        clear t5 r5 c5 T4 C4 B4 N2 N3 N4 N5 hT HS HD HLn HL1 HRB
        go_wp2_with fail
        have AT := at_any g rb3 id T w5 T5.out MT.out
        rw [MA.out.1, MA.out.2] at AT
        refine AT.mono ?_
        rintro e w6 ⟨rfl, b6⟩
        have T6 := Lib.hid (T5.out.below b6)
        have C6 := Lib.hid (C5.out.below b6)
        have B6 := Lib.hid (B5.out.trans (b6.mono B5.out.size))
        clear b6 AT T5 C5 B5
        go_wp2_with fail
        refine (tsame_any g rb3 g' rb5 T T w6 T6.out C6.out MT.out MT.out).mono ?_
        rintro e w7 ⟨rfl, b7⟩
        have T7 := Lib.hid (T6.out.below b7)
        have C7 := Lib.hid (C6.out.below b7)
        have B7 := Lib.hid (B6.out.trans (b7.mono B6.out.size))
        rw [decide_eq_true rfl]
        clear b7 T6 C6 B6
        go_wp2_with fail
        refine (due_any g rb3 at_ T w7 T7.out MS.out MT.out).mono ?_
        rintro e w8 ⟨A8, c8, rfl, o8, t8, h8⟩
        have T8 := Lib.hid t8
        have C8 : Hid (TF w8 g' rb5 T) := C7.out.ch h8 (by have := N6.out; omega) (by have := N6.out; omega) (by have := N6.out; omega) (by have := N6.out; omega)
        have N8 : Hid (g' < w7.heap.size ∧ rb5 < w7.heap.size ∧ w7.heap.size ≤ w8.heap.size) := ⟨C7.out.lt, C7.out.rlt, h8.size⟩
        have B8 := Lib.hid (B7.out.trans (h8.below HG.out N6.out.2.2.2.2.1 B7.out.size))
        have O8 := Lib.hid o8
        clear o8 t8 h8 T7 C7 B7
        go_wp2_with fail
        refine (due_any g' rb5 at_ T w8 C8.out MS.out MT.out).mono ?_
        rintro e w9 ⟨A9, c9, rfl, o9, t9, h9⟩
        have C9 := Lib.hid t9
        have T9 : Hid (TF w9 g rb3 (T.drop (cnt T at_))) := T8.out.ch h9 (by have := N6.out; omega) (by have := N6.out; omega) (by have := N6.out; omega) (by have := N6.out; omega)
        have O8' : Hid (w9.ownsRow w7.heap.size 3 1 (.slice A8 (cnt T at_) c8) (cnt T at_) (I ((T.take (cnt T at_)).map Prod.fst))) :=
          own_keepI O8.out (Nat.le_refl _) fun b b1 b2 => h9.block b b2 (by have := N8.out; omega) (by have := N8.out; omega)
        have B9 := Lib.hid (B8.out.trans (h9.below (by have := N6.out; omega) (by have := N6.out; omega) B8.out.size))
        have O9 := Lib.hid o9
        have CN : Hid (cnt T at_ ≤ 1000) := Nat.le_trans (cnt_le T at_) MT.out
        clear o9 t9 h9 T8 C8 B8 O8
        obtain ⟨q, hq⟩ : ∃ q, cnt T at_ = q := ⟨_, rfl⟩
        rw [hq] at C9 T9 O8' O9 CN ⊢
        clear hq
        go_wp2_with fail
        refine (isame_true A8 A9 q c8 c9 ((T.take q).map Prod.fst) w9 w9.heap.size w9.heap.size (Reads.of_own O8'.out) (Reads.of_own O9.out) CN.out (Nat.le_refl _) (Nat.le_refl _)).mono ?_
        rintro e w10 ⟨rfl, b10⟩
        have T10 := Lib.hid (T9.out.below b10)
        have C10 := Lib.hid (C9.out.below b10)
        have B10 := Lib.hid (B9.out.trans (b10.mono B9.out.size))
        clear b10 T9 C9 B9 O8' O9
        go_wp2_with fail
        refine (len_any g rb3 (T.drop q) w10 T10.out).mono ?_
        rintro e w11 ⟨rfl, h11⟩
        subst h11
        go_wp2_with fail
        refine (len_any g' rb5 (T.drop q) w11 C10.out).mono ?_
        rintro e w12 ⟨rfl, h12⟩
        subst h12
        go_wp2_with fail
        go_ret
        exact ⟨rfl, B10.out⟩
  · have h4I : (40 : Int) < (len : Int) := by omega
    clear h0 hlen h40
    go_enter Try.func6, Try.ntmps6
    go_wp2_with fail
    refine SP.out.mono ?_
    rintro e w1 ⟨rfl, b1⟩
    have SP2 := Lib.hid (speaks_any w1)
    have B1 := Lib.hid b1
    clear b1 SP
    go_wp2_with fail
    refine SP2.out.mono ?_
    rintro e w2 ⟨rfl, b2⟩
    have B2 := Lib.hid (B1.out.trans (b2.mono B1.out.size))
    clear b2 SP2
    go_wp2_with fail
    go_ret
    exact ⟨rfl, B2.out⟩
end Go.Proofs.Ytnobfmdjnldfpaa
