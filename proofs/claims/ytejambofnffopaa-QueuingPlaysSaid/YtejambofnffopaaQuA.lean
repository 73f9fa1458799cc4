/-
  What a queue does: check, cloned. Each statement bears its own conditions.
-/
import Derived.Test.YtejambofnffopaaQuM
namespace Go.Proofs.Ytejambofnffopaa.Q
open Go.RowKit Go.Proofs.Ytejambofnffopaa.F Go.Proofs.Ytejambofnffopaa.U
set_option linter.unusedVariables false
set_option linter.unusedSimpArgs false
theorem sl_at {w : World} {P : Nat → Prop} {A : Option Addr} {m c : Nat} {S : List Sl} (h : Sq w P (.slice A m c) m (CS S)) {j : Nat} (hj : j < m) {s : Sl} (hs : S[j]? = some s) : ∃ b off : Nat, A = some ⟨b, off, none⟩ ∧ b < w.heap.size ∧ w.cell? ⟨b, off + j, none⟩ = some (slv s) := by
  obtain ⟨_, b, off, e, hb, _, hc⟩ := h.at_ (show 0 < m by omega)
  exact ⟨b, off, e, hb, hc j _ (CS_at hs)⟩
/-- Is a message too long? -/
def big (n : Int) (LL : List (List Int)) : Bool := LL.any fun L => decide (n < (L.length : Int))
theorem big_take {n : Int} {LL : List (List Int)} {j : Nat} {L : List Int} (h : LL[j]? = some L) (hb : big n (LL.take j) = false) (hL : (L.length : Int) ≤ n) : big n (LL.take (j + 1)) = false := by
  have hj : j < LL.length := (List.getElem?_eq_some_iff.1 h).1
  have : LL.take (j + 1) = LL.take j ++ [L] := by
    rw [List.take_add_one, h]; rfl
  rw [this]
  unfold big at hb ⊢
  rw [List.any_append, hb]
  simp; omega
theorem big_at {n : Int} {LL : List (List Int)} {j : Nat} {L : List Int} (h : LL[j]? = some L) (hL : n < (L.length : Int)) : big n LL = true := by
  unfold big
  rw [List.any_eq_true]
  exact ⟨L, List.mem_of_getElem? h, by simpa using hL⟩
/-- The error of adding messages. -/
def chkV (n fr full : Int) (LL : List (List Int)) : Int := if big n LL = true then 2 else if fr < (LL.length : Int) then full else 0
structure ChR (fr full : Int) (n : Int) (LL' : List (List Int)) (m : Nat) (w : World) (ev iv : Value) (wr : World) : Prop where
  ex : ∃ (j : Nat) (x : Int), j ≤ m ∧ iv = .int .i64 (j : Int) ∧ ev = .int .i64 x ∧ x = (if fr < (j : Int) then full else 0) ∧ big n (LL'.take j) = false ∧ Below w.heap.size w wr
set_option maxRecDepth 100000 in
set_option maxHeartbeats 8000000 in
theorem check_any (lo : Nat) (p r : Nat → Prop) (g : Nat) (n k : Int) (LL : List (List Int)) (lost : Bool) (R P : Nat → Prop) (full : Int) (A : Option Addr) (m c : Nat) (S' : List Sl) (LL' : List (List Int)) (w : World) (h : QV lo w p r g n k LL lost) (hv : Sq w P (.slice A m c) m (CS S')) (hm : Mr w R S' LL') (hml : m ≤ 1000) :
    Calls Try.prog 30 #[.pointer (some ⟨g, 0, none⟩), .int .i64 full, .slice A m c] w fun e w' => e = .returned (.int .i64 (chkV n (k - (LL.length : Int)) full LL')) ∧ Below w.heap.size w w' := by
  have hmm : LL'.length = m := by have := hv.len; rw [hm.len2] at this; exact this
  have FR : Hid (∀ W, Below w.heap.size w W → Calls Try.prog 26 #[.pointer (some ⟨g, 0, none⟩)] W fun e w' => e = .returned (.int .i64 (k - (LL.length : Int))) ∧ Below W.heap.size W w') := fun W hb => free_any lo p r g n k LL lost W (h.below hb)
  have H0 : Hid (∀ W, Below w.heap.size w W → W.cell? ⟨g, 0, none⟩ = some (.int .i64 n)) := fun W hb => by
    obtain ⟨Am, cm, S, a, _⟩ := (h.below hb).four
    rw [(row_cell a 0).1]; rfl
  obtain ⟨fr, hfr⟩ : ∃ fr, k - (LL.length : Int) = fr := ⟨_, rfl⟩
  have HFR : Hid (0 ≤ fr) := by have := h.bd; unfold Hid; omega
  rw [hfr] at FR ⊢
  have HV := Lib.hid hv
  have HM := Lib.hid hm
  have HL : Hid (LL'.length = m ∧ m ≤ 1000) := ⟨hmm, hml⟩
  clear h hv hm hmm hml hfr
  go_enter Try.func30, Try.ntmps30
  go_wp2_with fail
  apply wp_scope_straight
  go_wp2_with fail
  apply wp_label
  go_wp2_with fail
  go_loopw [7, 14] (fun ev iv wr => ChR fr full n LL' m w ev iv wr) (fun _ i _ => m - (intOf i).toNat)
  case atStart => exact ⟨⟨0, 0, Nat.zero_le _, rfl, rfl, by rw [if_neg (by have := HFR.out; omega)], rfl, Below.refl _ _⟩⟩
  case round =>
    obtain ⟨⟨j, x, hj, rfl, rfl, hx, hbg, hb⟩⟩ := hrel
    have HX := Lib.hid hx
    have HB := Lib.hid hb
    have HG := Lib.hid hbg
    clear hx hb hbg
    by_cases hlt : j < m
    rotate_left
    · have hjm : j = m := by omega
      subst hjm
      have HF : Hid (x = chkV n fr full LL') := by
        have h1 := HG.out
        rw [List.take_of_length_le (by have := HL.out; omega)] at h1
        unfold Hid chkV
        rw [HX.out, h1, HL.out.1]
        simp
      clear hlt hj
      go_wp2_with fail
      unfold Exit.noGoto
      go_ret
      exact ⟨by rw [HF.out]; rfl, HB.out⟩
    have hjI : (j : Int) < (m : Int) := by omega
    have HJ : Hid (j < m) := hlt
    obtain ⟨A', c', L, hs, hl, hsq⟩ := HM.out.get (i := j) (by have := HL.out; omega)
    obtain ⟨b, off, hA, hbl, hc⟩ := sl_at HV.out hlt hs
    subst hA
    have e0 : wr.cell? ⟨b, off + j, none⟩ = some (.slice A' L.length c') := (HB.out.cell hbl).trans hc
    have d0 := H0.out wr HB.out
    have HLJ := Lib.hid hl
    have FRW := Lib.hid (FR.out wr HB.out)
    have hj1 : (j : Int) ≤ 1000 := by have := HL.out; omega
    clear hs hl hsq hbl hc hlt hj
    obtain ⟨nl, hnl⟩ : ∃ nl, L.length = nl := ⟨_, rfl⟩
    have HNL := Lib.hid hnl
    rw [hnl] at e0
    clear hnl
    by_cases hbig : n < (nl : Int)
    · have hbb : decide (n < (nl : Int)) = true := by simpa using hbig
      have HF : Hid (chkV n fr full LL' = 2) := by
        unfold Hid chkV
        rw [if_pos (big_at HLJ.out (by rw [HNL.out]; exact hbig))]
      clear hbig
      go_wp2_with fail
      unfold Exit.noGoto
      go_ret
      exact ⟨by rw [HF.out]; rfl, HB.out⟩
    have hbb : decide (n < (nl : Int)) = false := by simpa using hbig
    have HG1 : Hid (big n (LL'.take (j + 1)) = false) := big_take HLJ.out HG.out (by rw [HNL.out]; omega)
    clear hbig
    by_cases hjf : (j : Int) = fr
    · have hjb : ((j : Int) == fr) = true := by simpa using hjf
      have HE : Hid (full = if fr < ((j + 1 : Nat) : Int) then full else 0) := by unfold Hid; rw [if_pos (by omega)]
      clear hjf
      go_wp2_with fail
      refine FRW.out.mono ?_
      rintro e w2 ⟨rfl, b2⟩
      have B2 : Hid (Below w.heap.size w w2) := HB.out.trans (b2.mono HB.out.size)
      clear b2
      go_wp2_with fail
      go_roundw
      case rel =>
        have Q : ChR fr full n LL' m w (.int .i64 full) (.int .i64 ((j : Int) + 1)) w2 := ⟨⟨j + 1, full, HJ.out, by go_num, rfl, HE.out, HG1.out, B2.out⟩⟩
        first | exact Q | ((repeat apply Exists.intro); exact ⟨Q, rfl⟩)
      case measure => have := HJ.out; simp [intOf]; omega
    · have hjb : ((j : Int) == fr) = false := by simpa using hjf
      have HE : Hid (x = if fr < ((j + 1 : Nat) : Int) then full else 0) := by
        unfold Hid
        rw [HX.out]
        by_cases h : fr < (j : Int)
        · rw [if_pos h, if_pos (by omega)]
        · rw [if_neg h, if_neg (by omega)]
      clear hjf
      go_wp2_with fail
      refine FRW.out.mono ?_
      rintro e w2 ⟨rfl, b2⟩
      have B2 : Hid (Below w.heap.size w w2) := HB.out.trans (b2.mono HB.out.size)
      clear b2
      go_wp2_with fail
      go_roundw
      case rel =>
        have Q : ChR fr full n LL' m w (.int .i64 x) (.int .i64 ((j : Int) + 1)) w2 := ⟨⟨j + 1, x, HJ.out, by go_num, rfl, HE.out, HG1.out, B2.out⟩⟩
        first | exact Q | ((repeat apply Exists.intro); exact ⟨Q, rfl⟩)
      case measure => have := HJ.out; simp [intOf]; omega
structure ClR (m : Nat) (LL : List (List Int)) (w : World) (v iv : Value) (wr : World) : Prop where
  ex : ∃ (j : Nat) (S' : List Sl), j ≤ m ∧ iv = .int .i64 (j : Int) ∧ Ow 33 wr (fun b => w.heap.size ≤ b) v j (CS S') ∧ Ms wr (fun b => w.heap.size ≤ b) S' (LL.take j) ∧ Below w.heap.size w wr
set_option maxRecDepth 100000 in
set_option maxHeartbeats 4000000 in
theorem cloned_any (P R : Nat → Prop) (A : Option Addr) (m c : Nat) (S : List Sl) (LL : List (List Int)) (w : World) (hv : Sq w P (.slice A m c) m (CS S)) (hm : Mr w R S LL) (hml : m ≤ 1000) (hl : ∀ L ∈ LL, L.length ≤ 1000) :
    Calls Try.prog 31 #[.slice A m c] w fun e w' => ∃ v' S', e = .returned v' ∧ Ow 33 w' (fun b => w.heap.size ≤ b) v' m (CS S') ∧ Ms w' (fun b => w.heap.size ≤ b) S' LL ∧ Below w.heap.size w w' := by
  obtain ⟨i0, hi, hz0, hz1, hz2⟩ := info_of sl_info
  have hmm : LL.length = m := by have := hv.len; rw [hm.len2] at this; exact this
  have HV := Lib.hid hv
  have HM := Lib.hid hm
  have HL : Hid (LL.length = m ∧ m ≤ 1000 ∧ ∀ L ∈ LL, L.length ≤ 1000) := ⟨hmm, hml, hl⟩
  clear hv hm hmm hml hl
  go_enter Try.func31, Try.ntmps31
  go_wp2_with fail
  go_loopw [3, 8] (fun v iv wr => ClR m LL w v iv wr) (fun _ i _ => m - (intOf i).toNat)
  case atStart => exact ⟨⟨0, [], Nat.zero_le _, rfl, Ow.nil _ _ _, Ms.nil _ _, Below.refl _ _⟩⟩
  case round =>
    obtain ⟨⟨j, S', hj, rfl, how, hms, hb⟩⟩ := hrel
    obtain ⟨Av, cv, rfl⟩ := how.sl
    have HO := Lib.hid how
    have HS := Lib.hid hms
    have HB := Lib.hid hb
    clear how hms hb
    by_cases hlt : j < m
    rotate_left
    · have hjm : j = m := by omega
      subst hjm
      clear hlt hj
      go_wp2_with fail
      go_ret
      refine ⟨_, S', rfl, HO.out, ?_, HB.out⟩
      have := HS.out
      rwa [List.take_of_length_le (by have := HL.out; omega)] at this
    have hjI : (j : Int) < (m : Int) := by omega
    have HJ : Hid (j < m) := hlt
    have hj1 : (j : Int) ≤ 1000 := by have := HL.out; omega
    obtain ⟨A', c', L, hs, hl, hsq⟩ := HM.out.get (i := j) (by have := HL.out; omega)
    obtain ⟨b, off, hA, hbl, hc⟩ := sl_at HV.out hlt hs
    subst hA
    have e0 : wr.cell? ⟨b, off + j, none⟩ = some (.slice A' L.length c') := (HB.out.cell hbl).trans hc
    have HLJ : Hid (LL[j]? = some L ∧ L.length ≤ 1000) := ⟨hl, HL.out.2.2 L (List.mem_of_getElem? hl)⟩
    have CE := Lib.hid (U.uclone_any _ _ _ _ wr (hsq.belowP HB.out).st (CU_one _) (by have := HLJ.out; omega))
    clear hs hl hsq hbl hc hlt hj
    go_wp2_with fail
    refine CE.out.mono ?_
    rintro e w2 ⟨⟨rv, rfl, r1⟩, b2⟩
    obtain ⟨Ar, cr, rfl⟩ := slice_form r1
    have hx : Below w2.heap.size w2 (w2.alloc (.cells #[.slice Ar L.length cr] 33)) := (Below.refl _ _).alloc (Nat.le_refl _) _
    have O3 : Hid (Ow 33 (w2.alloc (.cells #[.slice Ar L.length cr] 33)) (fun b => w.heap.size ≤ b) (.slice Av j cv) j (CS S')) := (HO.out.below b2).below hx
    have M3 : Hid (Ms (w2.alloc (.cells #[.slice Ar L.length cr] 33)) (fun b => w.heap.size ≤ b) S' (LL.take j)) := (HS.out.below b2).below hx
    have HSB : Hid (w.heap.size ≤ wr.heap.size ∧ wr.heap.size ≤ w2.heap.size) := ⟨HB.out.size, b2.size⟩
    have N3 : Hid (Ow 52 (w2.alloc (.cells #[.slice Ar L.length cr] 33)) (fun b => w.heap.size ≤ b) (.slice Ar L.length cr) L.length (CU L)) := ((Ow.of_own r1).below hx).imp fun b _ hb => by have := HB.out.size; omega
    have B3 : Hid (Below w.heap.size w (w2.alloc (.cells #[.slice Ar L.length cr] 33))) := HB.out.trans ((b2.trans (hx.mono b2.size)).mono HB.out.size)
    have RD := Lib.hid (one_row (w := w2) (.slice Ar L.length cr) 33)
    clear r1 b2 hx CE
    go_wp2_with (at_builtin; refine wpList_append_any _ rfl _ _ 27 rfl 0 33 i0 (.slice none 0 0) 1 24 Try.underlying27 hi hz0 hz1 hz2 rfl (by decide) _ _ _ rfl O3.out.own (w2.heap.size + 1) (some ⟨w2.heap.size, 0, none⟩) 1 1 [.slice Ar L.length cr] rfl RD.out ?c2 ?c3 ?c4 ?c5 ?_)
    case c2 => intro u hu; simp at hu; subst hu; rfl
    case c3 => have := HJ.out; have := HL.out; unfold maxLen; omega
    case c4 => have := HJ.out; have := HL.out; omega
    case c5 => omega
    intro v2 w5 hown hgrow hblk
    have G := O3.out.grow hown hgrow (by simpa using hblk)
    have O5 : Hid (Ow 33 w5 (fun b => w.heap.size ≤ b) v2 (j + 1) (CS (S' ++ [(Ar, L.length, cr)]))) := by
      have h1 := G.1.imp (q := fun b => w.heap.size ≤ b) fun b _ hb => by
        rcases hb with hb | hb
        · exact hb
        · have := HSB.out; simp at hb; omega
      unfold Hid
      rw [CS_app]; exact h1
    have hty : Ty (w2.alloc (.cells #[.slice Ar L.length cr] 33)) (fun b => (Value.slice Av j cv).ownBlock = some b) := fun b hb hl => by
      rcases O3.out.form with ⟨h0, _⟩ | ⟨b1, cap, cur, hv, _, _, hg1, _⟩
      · rw [h0] at hb; cases hb
      · rw [hv] at hb
        injection hb with hb
        have hb : b1 = b := hb
        subst hb
        exact ⟨_, _, _, hg1, fun e => ne_us e.symm⟩
    have hfo : Fo (fun b => (Value.slice Av j cv).ownBlock = some b) (w2.alloc (.cells #[.slice Ar L.length cr] 33)) w5 := ⟨hgrow.os, hgrow.tape, hgrow.output, hgrow.size, fun k hk hn => hgrow.block k hk (fun e => hn e.symm)⟩
    have M5 : Hid (Ms w5 (fun b => w.heap.size ≤ b) (S' ++ [(Ar, L.length, cr)]) (LL.take (j + 1))) := by
      have h1 : LL.take (j + 1) = LL.take j ++ [L] := by rw [List.take_add_one, HLJ.out.1]; rfl
      unfold Hid
      rw [h1]
      exact (M3.out.fot hfo hty).app (Ms.one (s := (Ar, L.length, cr)) ((Ms.one (s := (Ar, L.length, cr)) N3.out).fot hfo hty |>.at_ 0 _ _ rfl rfl))
    have B5 : Hid (Below w.heap.size w w5) := B3.out.trans (G.2.below (fun b hb => hb) (by have := HSB.out; simp; omega))
    clear hown hgrow hblk G hty hfo O3 M3 N3 RD HO HS HB B3
    go_wp2_with fail
    go_roundw
    case rel =>
      have Q : ClR m LL w v2 (.int .i64 ((j : Int) + 1)) w5 := ⟨⟨j + 1, _, HJ.out, by go_num, O5.out, M5.out, B5.out⟩⟩
      first | exact Q | ((repeat apply Exists.intro); exact ⟨Q, rfl⟩)
    case measure => have := HJ.out; simp [intOf]; omega
end Go.Proofs.Ytejambofnffopaa.Q
