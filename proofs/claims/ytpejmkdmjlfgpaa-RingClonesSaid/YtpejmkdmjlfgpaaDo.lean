/-
  The contracts of do at a Take, a Peek and a Clear. Each statement bears its own conditions.
-/
import Derived.Test.YtpejmkdmjlfgpaaDoPut
namespace Go.Proofs.Ytpejmkdmjlfgpaa
open Go.RowKit
set_option linter.unusedSimpArgs false
set_option linter.unusedVariables false
def okL (L : List (List Int)) : Bool := !L.isEmpty
theorem slot_nil (w : World) (Q : Nat → Prop) : Slot w Q (.slice none 0 0) [] := ⟨none, 0, rfl, fun _ => rfl, Reads.none_, fun ad e => (by cases e)⟩
theorem rtake_any (n m : Nat) (w : World) (Q : Nat → Prop) (A : Option Addr) (c : Nat) (L : List (List Int)) (h : RefR w Q A c L) (hl : ∀ i, i < L.length → (L.getD i []).length ≤ 32) (hL : L.length ≤ 40) :
    Calls Try.prog 27 #[.agg #[.int .i64 (n : Int), .int .i64 (m : Int), .slice A L.length c]] w fun e w' => ∃ A' c' Am cm, e = .returned (.tuple #[.agg #[.int .i64 (n : Int), .int .i64 (m : Int), .slice A' L.tail.length c'], .slice Am (L.headD []).length cm, .bool (okL L)]) ∧
      RefR w' Q A' c' L.tail ∧ Slot w' (fun b => w.heap.size ≤ b ∧ b < w'.heap.size) (.slice Am (L.headD []).length cm) (L.headD []) ∧ Below w.heap.size w w' := by
  cases L with
  | nil => exact (rtake_none n m A c w).mono fun e w' hh => ⟨A, c, none, 0, hh.1, h.below hh.2, slot_nil _ _, hh.2⟩
  | cons l L =>
    refine (rtake_some n m w Q A c l L h (by have := hl 0 (by simp); simp at this; omega) (by simp at hL; omega)).mono ?_
    rintro e w' ⟨A', c', Am, cm, he, h1, h2, h3⟩
    exact ⟨A', c', Am, cm, he, h1, h2, h3⟩
theorem take_any (w : World) (Q : Nat → Prop) (g n m f : Nat) (L : List (List Int)) (h : RingF w Q g n m f L) :
    Calls Try.prog 19 #[.pointer (some ⟨g, 0, none⟩)] w fun e w' => ∃ A c f', e = .returned (.tuple #[.slice A (L.headD []).length c, .bool (okL L)]) ∧ Slot w' (fun b => w.heap.size ≤ b ∧ b < w'.heap.size) (.slice A (L.headD []).length c) (L.headD []) ∧ RingF w' Q g n m f' L.tail ∧ Past g w w' := by
  cases L with
  | nil => exact (take_none w Q g n m f h).mono fun e w' hh => ⟨none, 0, f, hh.1, slot_nil _ _, h.below hh.2, Past.of_below hh.2⟩
  | cons l L =>
    refine (take_some w Q g n m f _ l L h rfl).mono ?_
    rintro e w' ⟨A, c, he, h1, h2, h3⟩
    exact ⟨A, c, _, he, h1, h2, h3⟩
theorem peek_any (w : World) (Q : Nat → Prop) (g n m f : Nat) (L : List (List Int)) (h : RingF w Q g n m f L) :
    Calls Try.prog 20 #[.pointer (some ⟨g, 0, none⟩)] w fun e w' => ∃ A c, e = .returned (.tuple #[.slice A (L.headD []).length c, .bool (okL L)]) ∧ Slot w' (fun b => w.heap.size ≤ b ∧ b < w'.heap.size) (.slice A (L.headD []).length c) (L.headD []) ∧ Below w.heap.size w w' := by
  cases L with
  | nil => exact (peek_none w Q g n m f h).mono fun e w' hh => ⟨none, 0, hh.1, slot_nil _ _, hh.2⟩
  | cons l L =>
    refine (peek_some w Q g n m f l L h).mono ?_
    rintro e w' ⟨A, c, he, h1, h2⟩
    exact ⟨A, c, he, slot_own h1, h2⟩

theorem past_set1 {g q : Nat} {w wp : World} (h : Past g w wp) (hq : w.heap.size ≤ q) (j : Nat) (u : Value) : Past g w (wp.setCell ⟨q, j, none⟩ u) :=
  ⟨h.os, h.tape, h.output, by simpa [World.setCell] using h.size, fun k hk hg => by
    rw [Below.heap_setCell _ _ _ _ (show k ≠ q by omega)]; exact h.block k hk hg⟩
theorem RingF.set1 {w : World} {Q : Nat → Prop} {g n m f q : Nat} {L : List (List Int)} (h : RingF w Q g n m f L) (hg : g ≠ q) (hQ : ¬ Q q) (j : Nat) (u : Value) : RingF (w.setCell ⟨q, j, none⟩ u) Q g n m f L :=
  h.keep (by simp [World.setCell]) fun k hk hq => by
    have hk' : k ≠ q := fun e => by subst e; rcases hq with h1 | h1; exact hg h1.symm; exact hQ h1
    exact Below.heap_setCell _ _ _ _ hk'

set_option maxHeartbeats 4000000 in
theorem do_take (w : World) (Q : Nat → Prop) (g n m f : Nat) (L : List (List Int)) (hR : RingF w Q g n m f L) (Qr : Nat → Prop) (A : Option Addr) (c : Nat) (hM : RefR w Qr A c L) (hQr : ¬ Qr g) (kind : Int) (u : Nat) (hu : IntKind.u64.wrap kind = (u : Int)) (hd : (u : Int) % 4 = 1)
    (Ao : Option Addr) (lo co : Nat) :
    Calls Try.prog 11 #[.pointer (some ⟨g, 0, none⟩), .agg #[.int .i64 (n : Int), .int .i64 (m : Int), .slice A L.length c], .agg #[.int .i64 kind, .slice Ao lo co]] w fun e w' => ∃ A' c' f' L', e = .returned (.tuple #[.agg #[.int .i64 (n : Int), .int .i64 (m : Int), .slice A' L'.length c'], .bool true]) ∧
      RingF w' (fun b => Q b ∨ (w.heap.size ≤ b ∧ b < w'.heap.size)) g n m f' L' ∧ RefR w' (fun b => Qr b ∨ (w.heap.size ≤ b ∧ b < w'.heap.size)) A' c' L' ∧ Past g w w' := by
  have HR := Lib.hid hR
  have HM := Lib.hid hM
  have HNQ := Lib.hid hQr
  have gl := hR.lt
  obtain ⟨N, hN⟩ : ∃ N, L.length = N := ⟨_, rfl⟩
  have HN := Lib.hid hN
  have fit : Hid (L.length ≤ 32) := by have := hR.fit; have := hR.room; unfold Hid; omega
  have SZ := Lib.hid hR.size
  rw [hN]
  clear hR hM hQr hN
  go_enter Try.func11, Try.ntmps11
  go_upto_region 6 with fail
  have Y1 : Box (((w.alloc (.cells #[.int .i64 (n : Int), .int .i64 (m : Int), .slice A N c] 26)).alloc (.cells #[.int .i64 kind, .slice Ao lo co] 34)).alloc (.cells #[.int .i64 0, .int .i64 0, .slice none 0 0] 26)) w.heap.size (.int .i64 (n : Int)) (.int .i64 (m : Int)) (.slice A N c) :=
    ((box_new w _ _ _ 26).below ((Below.refl _ _).alloc (Nat.le_refl _) _)).below ((Below.refl _ _).alloc (Nat.le_refl _) _)
  have Y3 : Box (((w.alloc (.cells #[.int .i64 (n : Int), .int .i64 (m : Int), .slice A N c] 26)).alloc (.cells #[.int .i64 kind, .slice Ao lo co] 34)).alloc (.cells #[.int .i64 0, .int .i64 0, .slice none 0 0] 26)) (w.heap.size + 1 + 1) (.int .i64 0) (.int .i64 0) (.slice none 0 0) := by
    have := box_new ((w.alloc (.cells #[.int .i64 (n : Int), .int .i64 (m : Int), .slice A N c] 26)).alloc (.cells #[.int .i64 kind, .slice Ao lo co] 34)) (.int .i64 0) (.int .i64 0) (.slice none 0 0) 26
    rwa [show ((w.alloc (.cells #[.int .i64 (n : Int), .int .i64 (m : Int), .slice A N c] 26)).alloc (.cells #[.int .i64 kind, .slice Ao lo co] 34)).heap.size = w.heap.size + 1 + 1 by simp] at this
  have BW : Below w.heap.size w (((w.alloc (.cells #[.int .i64 (n : Int), .int .i64 (m : Int), .slice A N c] 26)).alloc (.cells #[.int .i64 kind, .slice Ao lo co] 34)).alloc (.cells #[.int .i64 0, .int .i64 0, .slice none 0 0] 26)) := (((Below.refl _ _).alloc (Nat.le_refl _) _).alloc (by simp) _).alloc (by simp; omega) _
  have SW : (((w.alloc (.cells #[.int .i64 (n : Int), .int .i64 (m : Int), .slice A N c] 26)).alloc (.cells #[.int .i64 kind, .slice Ao lo co] 34)).alloc (.cells #[.int .i64 0, .int .i64 0, .slice none 0 0] 26)).heap.size = w.heap.size + 3 := by simp
  generalize (((w.alloc (.cells #[.int .i64 (n : Int), .int .i64 (m : Int), .slice A N c] 26)).alloc (.cells #[.int .i64 kind, .slice Ao lo co] 34)).alloc (.cells #[.int .i64 0, .int .i64 0, .slice none 0 0] 26)) = W0 at *
  have T0 := Y1.c0
  have T1 := Y1.c1
  have T2 := Y1.c2
  have HY1 := Lib.hid Y1
  have HY3 := Lib.hid Y3
  have HBW := Lib.hid BW
  have HSW := Lib.hid SW
  have RT := rtake_any n m W0 (fun b => Qr b ∧ b < w.heap.size) A c L (HM.out.narrow.below BW) SZ.out (by have := fit.out; omega)
  rw [HN.out] at RT
  obtain ⟨tl, htl⟩ : ∃ tl, Hid (L.tail = tl) := ⟨_, rfl⟩
  obtain ⟨hdl, hhd⟩ : ∃ hdl, Hid ((L.headD []) = hdl) := ⟨_, rfl⟩
  obtain ⟨bo, hbo⟩ : ∃ bo, Hid (okL L = bo) := ⟨_, rfl⟩
  rw [htl.out, hhd.out, hbo.out] at RT
  have HRT := Lib.hid RT
  clear Y1 Y3 BW SW RT hu hd
  go_wp2_with fail
  refine HRT.out.mono ?_
  rintro e w2 ⟨A', c', Am, cm, rfl, hrr, hsl, hb2⟩
  have HRR := Lib.hid hrr
  have HSL := Lib.hid hsl
  have HB2 := Lib.hid hb2
  have TK := Lib.hid (take_any _ _ g n m f L (((HR.out.narrow.below HBW.out).below hb2).below ((Below.refl _ w2).alloc (Nat.le_refl _) (.cells #[.int .i64 (n : Int), .int .i64 (m : Int), .slice A' tl.length c'] 26))))
  clear hrr hsl hb2 HRT T0 T1 T2
  rw [htl.out, hhd.out, hbo.out] at TK
  go_wp2_with fail
  refine TK.out.mono ?_
  rintro e w3 ⟨Ax, cx, f', rfl, hsx, hring, hpast⟩
  have ws2 : Hid (w.heap.size + 3 ≤ w2.heap.size) := by have := HB2.out.size; have := HSW.out; unfold Hid; omega
  have wsv := ws2.out
  have w2g : w2.heap.size ≠ g := by omega
  have p2g : w.heap.size + 1 + 1 ≠ g := by omega
  have BT := (box_new w2 (.int .i64 (n : Int)) (.int .i64 (m : Int)) (.slice A' tl.length c') 26).past hpast w2g
  have T0 := BT.c0
  have T1 := BT.c1
  have T2 := BT.c2
  have Z6 := ((HY3.out.below HB2.out).below ((Below.refl _ w2).alloc (Nat.le_refl _) (.cells #[.int .i64 (n : Int), .int .i64 (m : Int), .slice A' tl.length c'] 26))).past hpast p2g
  have SLm := (HSL.out.keep (w' := w2.alloc (.cells #[.int .i64 (n : Int), .int .i64 (m : Int), .slice A' tl.length c'] 26)) (by simp) fun k hk _ => ((Below.refl _ w2).alloc (Nat.le_refl _) _).block k hk).keep hpast.size fun k hk hq => hpast.block k hk (fun e => by subst e; have := hq.1; have := HSW.out; omega)
  obtain ⟨_, _, hv1, _, hr1, _⟩ := SLm.ex
  obtain ⟨_, _, hv2, _, hr2, _⟩ := hsx.ex
  injection hv1 with e1 _ e2
  subst e1
  subst e2
  injection hv2 with e1 _ e2
  subst e1
  subst e2
  have hlen : hdl.length ≤ 32 := by
    rw [← hhd.out]
    cases hL : L with
    | nil => simp
    | cons l L' => have := SZ.out 0 (by rw [hL]; simp); rw [hL] at this; simpa using this
  have SM := Lib.hid (same_true Ax Am hdl.length hdl.length cx cm hdl w3.drew _ _ (hr2.below (Below.refl _ _).drew) (hr1.below (Below.refl _ _).drew) (by omega) (by omega))
  have HPAST := Lib.hid hpast
  have HRING := Lib.hid hring
  have HZ6 := Lib.hid Z6
  obtain ⟨kd, hkd⟩ : ∃ kd, Hid (hdl.length = kd) := ⟨_, rfl⟩
  rw [hkd.out] at SM ⊢
  clear hpast hring Z6 BT SLm hr1 hr2 hsx TK hlen
  go_wp2_with fail
  have HREF := Lib.hid ((HRR.out.below ((Below.refl _ w2).alloc (Nat.le_refl _) (.cells #[.int .i64 (n : Int), .int .i64 (m : Int), .slice A' tl.length c'] 26))).past HPAST.out (fun hh => HNQ.out hh.1))
  have HPW := Lib.hid (((Past.of_below (g := g) (HBW.out.trans (HB2.out.mono HBW.out.size))).trans (Past.of_below ((Below.refl _ w2).alloc (Nat.le_refl _) (.cells #[.int .i64 (n : Int), .int .i64 (m : Int), .slice A' tl.length c'] 26)))).trans HPAST.out)
  have tne : w.heap.size + 1 + 1 ≠ w2.heap.size := by omega
  refine wp_region_held_drew (S := (fun w' => w3.heap.size ≤ w'.heap.size ∧ w'.cell? ⟨w2.heap.size, 0, none⟩ = some (.int .i64 (n : Int)) ∧ w'.cell? ⟨w2.heap.size, 1, none⟩ = some (.int .i64 (m : Int)) ∧ w'.cell? ⟨w2.heap.size, 2, none⟩ = some (.slice A' tl.length c'))) (by kernel_rfl) ?_ (fun hHeld => ?_)
  · exact ⟨Nat.le_refl _, T0, T1, T2⟩
  refine takeD (i := 0) (d := some 56) (v := ?_) _ rfl rfl (by kernel_rfl) (by kernel_rfl) (by kernel_rfl) (fun _ _ _ h => h) (by rfl) ?_ (by assumption) ?_
  rotate_left
  · (intro w hSw; (try dsimp only at hSw); go_simp) <;> with_reducible rfl
  try simp only [Act.put, List.setIfInBounds_toArray, List.set_cons_zero, List.set_cons_succ]
  refine takeD (i := 1) (d := some 57) (v := ?_) _ rfl rfl (by kernel_rfl) (by kernel_rfl) (by kernel_rfl) (fun _ _ _ h => h) (by rfl) ?_ (by assumption) ?_
  rotate_left
  · (intro w hSw; (try dsimp only at hSw); go_simp) <;> with_reducible rfl
  try simp only [Act.put, List.setIfInBounds_toArray, List.set_cons_zero, List.set_cons_succ]
  refine takeD (i := 2) (d := some 58) (v := ?_) _ rfl rfl (by kernel_rfl) (by kernel_rfl) (by kernel_rfl) (fun _ _ _ h => h) (by rfl) ?_ (by assumption) ?_
  rotate_left
  · (intro w hSw; (try dsimp only at hSw); go_simp) <;> with_reducible rfl
  try simp only [Act.put, List.setIfInBounds_toArray, List.set_cons_zero, List.set_cons_succ]
  refine takeD (i := 3) (d := some 59) (v := ?_) _ rfl rfl (by kernel_rfl) (by kernel_rfl) (by kernel_rfl) (fun _ _ _ h => h) (by rfl) ?_ (by assumption) ?_
  rotate_left
  · (intro w hSw; (try dsimp only at hSw); go_simp) <;> with_reducible rfl
  try simp only [Act.put, List.setIfInBounds_toArray, List.set_cons_zero, List.set_cons_succ]
  refine takeD (i := 4) (d := some 60) (v := ?_) _ rfl rfl (by kernel_rfl) (by kernel_rfl) (by kernel_rfl) (fun _ _ _ h => h) (by rfl) ?_ (by assumption) ?_
  rotate_left
  · (intro w hSw; (try dsimp only at hSw); go_simp) <;> with_reducible rfl
  try simp only [Act.put, List.setIfInBounds_toArray, List.set_cons_zero, List.set_cons_succ]
  refine takeD (i := 5) (d := some 61) (v := ?_) _ rfl rfl (by kernel_rfl) (by kernel_rfl) (by kernel_rfl) (fun _ _ _ h => h) (by rfl) ?_ (by assumption) ?_
  rotate_left
  · (intro w hSw; (try dsimp only at hSw); go_simp) <;> with_reducible rfl
  try simp only [Act.put, List.setIfInBounds_toArray, List.set_cons_zero, List.set_cons_succ]
  refine takeD (i := 6) (d := some 62) (v := ?_) _ rfl rfl (by kernel_rfl) (by kernel_rfl) (by kernel_rfl) (fun _ _ _ h => h) (by rfl) ?_ (by assumption) ?_
  rotate_left
  · (intro w hSw; (try dsimp only at hSw); go_simp) <;> with_reducible rfl
  try simp only [Act.put, List.setIfInBounds_toArray, List.set_cons_zero, List.set_cons_succ]
  refine wpAnyH_ready (rs := [7]) (by kernel_rfl) (by simp) ?_
  refine AllReadyH.cons rfl (fun K hK => ?_) AllReadyH.nil
  (go_simp; go_at_call 24; refine SM.out.mono ?_; rintro e w4 ⟨rfl, hb4⟩; try go_wp2_with fail)
  refine hK.out _ _ ?_ (fun hHeld => ?_)
  · exact ⟨Nat.le_trans hHeld.1 hb4.size, cell_later hb4 hHeld.2.1, cell_later hb4 hHeld.2.2.1, cell_later hb4 hHeld.2.2.2⟩
  clear hK K
  try simp only [Act.put, List.setIfInBounds_toArray, List.set_cons_zero, List.set_cons_succ]
  have HW4 := hHeld
  refine takeD (i := 8) (d := some 64) (v := ?_) _ rfl rfl (by kernel_rfl) (by kernel_rfl) (by kernel_rfl) (fun _ _ _ h => h) (by rfl) ?_ (by assumption) ?_
  rotate_left
  · (intro w hSw; (try dsimp only at hSw); go_simp) <;> with_reducible rfl
  try simp only [Act.put, List.setIfInBounds_toArray, List.set_cons_zero, List.set_cons_succ]
  have hb34 : Below w3.heap.size w3 w4 := (Below.refl w3.heap.size w3).drew.trans hb4
  have ZB := HZ6.out.below hb34
  have z0 := ZB.c0
  have z1 := ZB.c1
  have z2 := ZB.c2
  have zf := ZB.fz
  refine wpAnyH_ready (rs := [9]) (by kernel_rfl) (by simp) ?_
  refine AllReadyH.cons rfl (fun K hK => ?_) AllReadyH.nil
  go_simp
  refine hK.out _ _ ?_ (fun hHeld => ?_)
  · exact ⟨by simpa [World.setCell] using HW4.1, (far3 tne _ _ _).trans HW4.2.1, (far3 tne _ _ _).trans HW4.2.2.1, (far3 tne _ _ _).trans HW4.2.2.2⟩
  clear hK K
  try simp only [Act.put, List.setIfInBounds_toArray, List.set_cons_zero, List.set_cons_succ]
  refine takeD (i := 10) (d := some 7) (v := ?_) _ rfl rfl (by kernel_rfl) (by kernel_rfl) (by kernel_rfl) (fun _ _ _ h => h) (by rfl) ?_ (by assumption) ?_
  rotate_left
  · (intro w hSw; (try dsimp only at hSw); go_simp) <;> with_reducible rfl
  try simp only [Act.put, List.setIfInBounds_toArray, List.set_cons_zero, List.set_cons_succ]
  refine wpAnyH_done (by kernel_rfl) ?_ _
  have FR := (HRING.out.below hb34).set3 (q := w.heap.size + 1 + 1) (by omega) (fun hh => by have := hh.2; omega) (.int .i64 (n : Int)) (.int .i64 (m : Int)) (.slice A' tl.length c')
  have FM := (HREF.out.below hb34).set3 (tb := w.heap.size + 1 + 1) (fun hh => by have := hh.2; omega) (.int .i64 (n : Int)) (.int .i64 (m : Int)) (.slice A' tl.length c')
  have PP := past_set3 (q := w.heap.size + 1 + 1) (HPW.out.trans (Past.of_below hb34)) (by omega) (.int .i64 (n : Int)) (.int .i64 (m : Int)) (.slice A' tl.length c')
  have HFR := Lib.hid FR
  have HFM := Lib.hid FM
  have HPP := Lib.hid PP
  have Z7 := ZB.set3 (.int .i64 (n : Int)) (.int .i64 (m : Int)) (.slice A' tl.length c')
  have z70 := Z7.c0
  have z71 := Z7.c1
  have z72 := Z7.c2
  clear FR FM PP Z7 ZB z0 z1 z2
  go_wp2_with fail
  exact bodyPost_ret (v := .tuple #[.agg #[.int .i64 (n : Int), .int .i64 (m : Int), .slice A' tl.length c'], .bool true]) (by simp [results, Try.results11, go_sem, z70, z71, z72]) rfl ⟨A', c', f', tl, rfl,
    HFR.out.more (fun b hb => .inl hb.1) (fun hh => by
      rcases hh with h1 | h1
      · exact HR.out.nog h1
      · omega),
    HFM.out.more (fun b hb hq => .inl hq.1), HPP.out⟩

set_option maxHeartbeats 4000000 in
theorem do_peek (w : World) (Q : Nat → Prop) (g n m f : Nat) (L : List (List Int)) (hR : RingF w Q g n m f L) (Qr : Nat → Prop) (A : Option Addr) (c : Nat) (hM : RefR w Qr A c L) (hQr : ¬ Qr g) (kind : Int) (u : Nat) (hu : IntKind.u64.wrap kind = (u : Int)) (hd : (u : Int) % 4 = 2)
    (Ao : Option Addr) (lo co : Nat) :
    Calls Try.prog 11 #[.pointer (some ⟨g, 0, none⟩), .agg #[.int .i64 (n : Int), .int .i64 (m : Int), .slice A L.length c], .agg #[.int .i64 kind, .slice Ao lo co]] w fun e w' => ∃ A' c' f' L', e = .returned (.tuple #[.agg #[.int .i64 (n : Int), .int .i64 (m : Int), .slice A' L'.length c'], .bool true]) ∧
      RingF w' (fun b => Q b ∨ (w.heap.size ≤ b ∧ b < w'.heap.size)) g n m f' L' ∧ RefR w' (fun b => Qr b ∨ (w.heap.size ≤ b ∧ b < w'.heap.size)) A' c' L' ∧ Past g w w' := by
  have HR := Lib.hid hR
  have HM := Lib.hid hM
  have HNQ := Lib.hid hQr
  have gl := hR.lt
  obtain ⟨N, hN⟩ : ∃ N, L.length = N := ⟨_, rfl⟩
  have HN := Lib.hid hN
  have fit : Hid (L.length ≤ 32) := by have := hR.fit; have := hR.room; unfold Hid; omega
  have SZ := Lib.hid hR.size
  rw [hN]
  clear hR hM hQr hN
  go_enter Try.func11, Try.ntmps11
  go_upto_region 10 with fail
  have Y1 : Box (((w.alloc (.cells #[.int .i64 (n : Int), .int .i64 (m : Int), .slice A N c] 26)).alloc (.cells #[.int .i64 kind, .slice Ao lo co] 34)).alloc (.cells #[.int .i64 0, .int .i64 0, .slice none 0 0] 26)) w.heap.size (.int .i64 (n : Int)) (.int .i64 (m : Int)) (.slice A N c) :=
    ((box_new w _ _ _ 26).below ((Below.refl _ _).alloc (Nat.le_refl _) _)).below ((Below.refl _ _).alloc (Nat.le_refl _) _)
  have Y3 : Box (((w.alloc (.cells #[.int .i64 (n : Int), .int .i64 (m : Int), .slice A N c] 26)).alloc (.cells #[.int .i64 kind, .slice Ao lo co] 34)).alloc (.cells #[.int .i64 0, .int .i64 0, .slice none 0 0] 26)) (w.heap.size + 1 + 1) (.int .i64 0) (.int .i64 0) (.slice none 0 0) := by
    have := box_new ((w.alloc (.cells #[.int .i64 (n : Int), .int .i64 (m : Int), .slice A N c] 26)).alloc (.cells #[.int .i64 kind, .slice Ao lo co] 34)) (.int .i64 0) (.int .i64 0) (.slice none 0 0) 26
    rwa [show ((w.alloc (.cells #[.int .i64 (n : Int), .int .i64 (m : Int), .slice A N c] 26)).alloc (.cells #[.int .i64 kind, .slice Ao lo co] 34)).heap.size = w.heap.size + 1 + 1 by simp] at this
  have BW : Below w.heap.size w (((w.alloc (.cells #[.int .i64 (n : Int), .int .i64 (m : Int), .slice A N c] 26)).alloc (.cells #[.int .i64 kind, .slice Ao lo co] 34)).alloc (.cells #[.int .i64 0, .int .i64 0, .slice none 0 0] 26)) := (((Below.refl _ _).alloc (Nat.le_refl _) _).alloc (by simp) _).alloc (by simp; omega) _
  have SW : (((w.alloc (.cells #[.int .i64 (n : Int), .int .i64 (m : Int), .slice A N c] 26)).alloc (.cells #[.int .i64 kind, .slice Ao lo co] 34)).alloc (.cells #[.int .i64 0, .int .i64 0, .slice none 0 0] 26)).heap.size = w.heap.size + 3 := by simp
  generalize (((w.alloc (.cells #[.int .i64 (n : Int), .int .i64 (m : Int), .slice A N c] 26)).alloc (.cells #[.int .i64 kind, .slice Ao lo co] 34)).alloc (.cells #[.int .i64 0, .int .i64 0, .slice none 0 0] 26)) = W0 at *
  have HY1 := Lib.hid Y1
  have HY3 := Lib.hid Y3
  have HBW := Lib.hid BW
  have HSW := Lib.hid SW
  have T0 := Y1.c0
  have T1 := Y1.c1
  have T2 := Y1.c2
  have RT := rtake_any n m W0 (fun b => Qr b ∧ b < w.heap.size) A c L (HM.out.narrow.below BW) SZ.out (by have := fit.out; omega)
  rw [HN.out] at RT
  obtain ⟨tl, htl⟩ : ∃ tl, Hid (L.tail = tl) := ⟨_, rfl⟩
  obtain ⟨hdl, hhd⟩ : ∃ hdl, Hid ((L.headD []) = hdl) := ⟨_, rfl⟩
  obtain ⟨bo, hbo⟩ : ∃ bo, Hid (okL L = bo) := ⟨_, rfl⟩
  rw [htl.out, hhd.out, hbo.out] at RT
  have HRT := Lib.hid RT
  clear Y1 Y3 BW SW RT hu hd
  go_wp2_with fail
  refine HRT.out.mono ?_
  rintro e w2 ⟨A', c', Am, cm, rfl, hrr, hsl, hb2⟩
  have HSL := Lib.hid hsl
  have HB2 := Lib.hid hb2
  have TK := peek_any _ _ g n m f L (((HR.out.narrow.below HBW.out).below hb2).below ((Below.refl _ w2).alloc (Nat.le_refl _) (.cells #[.int .i64 (n : Int), .int .i64 (m : Int), .slice A' tl.length c'] 26)))
  rw [hhd.out, hbo.out] at TK
  have HTK := Lib.hid TK
  clear hrr hsl hb2 HRT T0 T1 T2 TK
  go_wp2_with fail
  refine HTK.out.mono ?_
  rintro e w3 ⟨Ax, cx, rfl, hsx, hb3⟩
  have ws2 : Hid (w.heap.size + 3 ≤ w2.heap.size) := by have := HB2.out.size; have := HSW.out; unfold Hid; omega
  have wsv := ws2.out
  have p2g : w.heap.size + 1 + 1 ≠ g := by omega
  have b23 : Below w2.heap.size w2 w3 := ((Below.refl _ w2).alloc (Nat.le_refl _) (.cells #[.int .i64 (n : Int), .int .i64 (m : Int), .slice A' tl.length c'] 26)).trans (hb3.mono (by simp))
  have b03 : Below W0.heap.size W0 w3 := HB2.out.trans (b23.mono HB2.out.size)
  have BT := HY1.out.below b03
  have T0 := BT.c0
  have T1 := BT.c1
  have T2 := BT.c2
  have Z6 := HY3.out.below b03
  have SLm := HSL.out.keep (w' := w3) b23.size fun k hk _ => b23.block k hk
  obtain ⟨_, _, hv1, _, hr1, _⟩ := SLm.ex
  obtain ⟨_, _, hv2, _, hr2, _⟩ := hsx.ex
  injection hv1 with e1 _ e2
  subst e1
  subst e2
  injection hv2 with e1 _ e2
  subst e1
  subst e2
  have hlen : hdl.length ≤ 32 := by
    rw [← hhd.out]
    cases hL : L with
    | nil => simp
    | cons l L' => have := SZ.out 0 (by rw [hL]; simp); rw [hL] at this; simpa using this
  have SM := Lib.hid (same_true Ax Am hdl.length hdl.length cx cm hdl w3.drew _ _ (hr2.below (Below.refl _ _).drew) (hr1.below (Below.refl _ _).drew) (by omega) (by omega))
  have HRING := Lib.hid ((HR.out.narrow.below HBW.out).below b03)
  have HREF := Lib.hid ((HM.out.narrow.below HBW.out).below b03)
  have HPW := Lib.hid (Past.of_below (g := g) (HBW.out.trans (b03.mono HBW.out.size)))
  have HZ6 := Lib.hid Z6
  obtain ⟨kd, hkd⟩ : ∃ kd, Hid (hdl.length = kd) := ⟨_, rfl⟩
  rw [hkd.out] at SM ⊢
  have tne : w.heap.size + 1 + 1 ≠ w.heap.size := by omega
  have ws3 : Hid (w.heap.size + 3 ≤ w3.heap.size) := by have := b03.size; have := HSW.out; unfold Hid; omega
  have wsv3 := ws3.out
  clear hb3 Z6 BT SLm hr1 hr2 hsx hlen b23 b03 HTK
  go_wp2_with fail
  refine wp_region_held_drew (S := (fun w' => w3.heap.size ≤ w'.heap.size ∧ w'.cell? ⟨w.heap.size, 0, none⟩ = some (.int .i64 (n : Int)) ∧ w'.cell? ⟨w.heap.size, 1, none⟩ = some (.int .i64 (m : Int)) ∧ w'.cell? ⟨w.heap.size, 2, none⟩ = some (.slice A N c))) (by kernel_rfl) ?_ (fun hHeld => ?_)
  · exact ⟨Nat.le_refl _, T0, T1, T2⟩
  refine takeD (i := 0) (d := some 78) (v := ?_) _ rfl rfl (by kernel_rfl) (by kernel_rfl) (by kernel_rfl) (fun _ _ _ h => h) (by rfl) ?_ (by assumption) ?_
  rotate_left
  · (intro w hSw; (try dsimp only at hSw); go_simp) <;> with_reducible rfl
  try simp only [Act.put, List.setIfInBounds_toArray, List.set_cons_zero, List.set_cons_succ]
  refine takeD (i := 1) (d := some 79) (v := ?_) _ rfl rfl (by kernel_rfl) (by kernel_rfl) (by kernel_rfl) (fun _ _ _ h => h) (by rfl) ?_ (by assumption) ?_
  rotate_left
  · (intro w hSw; (try dsimp only at hSw); go_simp) <;> with_reducible rfl
  try simp only [Act.put, List.setIfInBounds_toArray, List.set_cons_zero, List.set_cons_succ]
  refine takeD (i := 2) (d := some 80) (v := ?_) _ rfl rfl (by kernel_rfl) (by kernel_rfl) (by kernel_rfl) (fun _ _ _ h => h) (by rfl) ?_ (by assumption) ?_
  rotate_left
  · (intro w hSw; (try dsimp only at hSw); go_simp) <;> with_reducible rfl
  try simp only [Act.put, List.setIfInBounds_toArray, List.set_cons_zero, List.set_cons_succ]
  refine takeD (i := 3) (d := some 81) (v := ?_) _ rfl rfl (by kernel_rfl) (by kernel_rfl) (by kernel_rfl) (fun _ _ _ h => h) (by rfl) ?_ (by assumption) ?_
  rotate_left
  · (intro w hSw; (try dsimp only at hSw); go_simp) <;> with_reducible rfl
  try simp only [Act.put, List.setIfInBounds_toArray, List.set_cons_zero, List.set_cons_succ]
  refine takeD (i := 4) (d := some 82) (v := ?_) _ rfl rfl (by kernel_rfl) (by kernel_rfl) (by kernel_rfl) (fun _ _ _ h => h) (by rfl) ?_ (by assumption) ?_
  rotate_left
  · (intro w hSw; (try dsimp only at hSw); go_simp) <;> with_reducible rfl
  try simp only [Act.put, List.setIfInBounds_toArray, List.set_cons_zero, List.set_cons_succ]
  refine takeD (i := 5) (d := some 83) (v := ?_) _ rfl rfl (by kernel_rfl) (by kernel_rfl) (by kernel_rfl) (fun _ _ _ h => h) (by rfl) ?_ (by assumption) ?_
  rotate_left
  · (intro w hSw; (try dsimp only at hSw); go_simp) <;> with_reducible rfl
  try simp only [Act.put, List.setIfInBounds_toArray, List.set_cons_zero, List.set_cons_succ]
  refine takeD (i := 6) (d := some 84) (v := ?_) _ rfl rfl (by kernel_rfl) (by kernel_rfl) (by kernel_rfl) (fun _ _ _ h => h) (by rfl) ?_ (by assumption) ?_
  rotate_left
  · (intro w hSw; (try dsimp only at hSw); go_simp) <;> with_reducible rfl
  try simp only [Act.put, List.setIfInBounds_toArray, List.set_cons_zero, List.set_cons_succ]
  refine wpAnyH_ready (rs := [7]) (by kernel_rfl) (by simp) ?_
  refine AllReadyH.cons rfl (fun K hK => ?_) AllReadyH.nil
  (go_simp; go_at_call 24; refine SM.out.mono ?_; rintro e w4 ⟨rfl, hb4⟩; try go_wp2_with fail)
  refine hK.out _ _ ?_ (fun hHeld => ?_)
  · exact ⟨Nat.le_trans hHeld.1 hb4.size, cell_later hb4 hHeld.2.1, cell_later hb4 hHeld.2.2.1, cell_later hb4 hHeld.2.2.2⟩
  clear hK K
  try simp only [Act.put, List.setIfInBounds_toArray, List.set_cons_zero, List.set_cons_succ]
  have HW4 := hHeld
  refine takeD (i := 8) (d := some 86) (v := ?_) _ rfl rfl (by kernel_rfl) (by kernel_rfl) (by kernel_rfl) (fun _ _ _ h => h) (by rfl) ?_ (by assumption) ?_
  rotate_left
  · (intro w hSw; (try dsimp only at hSw); go_simp) <;> with_reducible rfl
  try simp only [Act.put, List.setIfInBounds_toArray, List.set_cons_zero, List.set_cons_succ]
  have hb34 : Below w3.heap.size w3 w4 := (Below.refl w3.heap.size w3).drew.trans hb4
  have ZB := HZ6.out.below hb34
  have z0 := ZB.c0
  have z1 := ZB.c1
  have z2 := ZB.c2
  have zf := ZB.fz
  refine wpAnyH_ready (rs := [9]) (by kernel_rfl) (by simp) ?_
  refine AllReadyH.cons rfl (fun K hK => ?_) AllReadyH.nil
  go_simp
  refine hK.out _ _ ?_ (fun hHeld => ?_)
  · exact ⟨by simpa [World.setCell] using HW4.1, (far3 tne _ _ _).trans HW4.2.1, (far3 tne _ _ _).trans HW4.2.2.1, (far3 tne _ _ _).trans HW4.2.2.2⟩
  clear hK K
  try simp only [Act.put, List.setIfInBounds_toArray, List.set_cons_zero, List.set_cons_succ]
  refine takeD (i := 10) (d := some 7) (v := ?_) _ rfl rfl (by kernel_rfl) (by kernel_rfl) (by kernel_rfl) (fun _ _ _ h => h) (by rfl) ?_ (by assumption) ?_
  rotate_left
  · (intro w hSw; (try dsimp only at hSw); go_simp) <;> with_reducible rfl
  try simp only [Act.put, List.setIfInBounds_toArray, List.set_cons_zero, List.set_cons_succ]
  refine wpAnyH_done (by kernel_rfl) ?_ _
  have FR := (HRING.out.below hb34).set3 (q := w.heap.size + 1 + 1) (by omega) (fun hh => by have := hh.2; omega) (.int .i64 (n : Int)) (.int .i64 (m : Int)) (.slice A N c)
  have FM := (HREF.out.below hb34).set3 (tb := w.heap.size + 1 + 1) (fun hh => by have := hh.2; omega) (.int .i64 (n : Int)) (.int .i64 (m : Int)) (.slice A N c)
  have PP := past_set3 (q := w.heap.size + 1 + 1) (HPW.out.trans (Past.of_below hb34)) (by omega) (.int .i64 (n : Int)) (.int .i64 (m : Int)) (.slice A N c)
  have HFR := Lib.hid FR
  have HFM := Lib.hid FM
  have HPP := Lib.hid PP
  have Z7 := ZB.set3 (.int .i64 (n : Int)) (.int .i64 (m : Int)) (.slice A N c)
  have z70 := Z7.c0
  have z71 := Z7.c1
  have z72 := Z7.c2
  clear FR FM PP Z7 ZB z0 z1 z2
  go_wp2_with fail
  exact bodyPost_ret (v := .tuple #[.agg #[.int .i64 (n : Int), .int .i64 (m : Int), .slice A N c], .bool true]) (by simp [results, Try.results11, go_sem, z70, z71, z72]) rfl ⟨A, c, f, L, by rw [HN.out],
    HFR.out.more (fun b hb => .inl hb.1) (fun hh => by
      rcases hh with h1 | h1
      · exact HR.out.nog h1
      · omega),
    HFM.out.more (fun b hb hq => .inl hq.1), HPP.out⟩

set_option maxHeartbeats 4000000 in
theorem do_clear (w : World) (Q : Nat → Prop) (g n m f : Nat) (L : List (List Int)) (hR : RingF w Q g n m f L) (Qr : Nat → Prop) (A : Option Addr) (c : Nat) (hM : RefR w Qr A c L) (hQr : ¬ Qr g) (kind : Int) (u : Nat) (hu : IntKind.u64.wrap kind = (u : Int)) (hd : (u : Int) % 4 = 3)
    (Ao : Option Addr) (lo co : Nat) :
    Calls Try.prog 11 #[.pointer (some ⟨g, 0, none⟩), .agg #[.int .i64 (n : Int), .int .i64 (m : Int), .slice A L.length c], .agg #[.int .i64 kind, .slice Ao lo co]] w fun e w' => ∃ A' c' f' L', e = .returned (.tuple #[.agg #[.int .i64 (n : Int), .int .i64 (m : Int), .slice A' L'.length c'], .bool true]) ∧
      RingF w' (fun b => Q b ∨ (w.heap.size ≤ b ∧ b < w'.heap.size)) g n m f' L' ∧ RefR w' (fun b => Qr b ∨ (w.heap.size ≤ b ∧ b < w'.heap.size)) A' c' L' ∧ Past g w w' := by
  have HR := Lib.hid hR
  have HM := Lib.hid hM
  have HNQ := Lib.hid hQr
  have gl := hR.lt
  obtain ⟨N, hN⟩ : ∃ N, L.length = N := ⟨_, rfl⟩
  have HN := Lib.hid hN
  have fit : Hid (L.length ≤ 32) := by have := hR.fit; have := hR.room; unfold Hid; omega
  have SZ := Lib.hid hR.size
  rw [hN]
  clear hR hM hQr hN
  go_enter Try.func11, Try.ntmps11
  go_upto_region 13 with fail
  have Y1 : Box (((w.alloc (.cells #[.int .i64 (n : Int), .int .i64 (m : Int), .slice A N c] 26)).alloc (.cells #[.int .i64 kind, .slice Ao lo co] 34)).alloc (.cells #[.int .i64 0, .int .i64 0, .slice none 0 0] 26)) w.heap.size (.int .i64 (n : Int)) (.int .i64 (m : Int)) (.slice A N c) :=
    ((box_new w _ _ _ 26).below ((Below.refl _ _).alloc (Nat.le_refl _) _)).below ((Below.refl _ _).alloc (Nat.le_refl _) _)
  have Y3 : Box (((w.alloc (.cells #[.int .i64 (n : Int), .int .i64 (m : Int), .slice A N c] 26)).alloc (.cells #[.int .i64 kind, .slice Ao lo co] 34)).alloc (.cells #[.int .i64 0, .int .i64 0, .slice none 0 0] 26)) (w.heap.size + 1 + 1) (.int .i64 0) (.int .i64 0) (.slice none 0 0) := by
    have := box_new ((w.alloc (.cells #[.int .i64 (n : Int), .int .i64 (m : Int), .slice A N c] 26)).alloc (.cells #[.int .i64 kind, .slice Ao lo co] 34)) (.int .i64 0) (.int .i64 0) (.slice none 0 0) 26
    rwa [show ((w.alloc (.cells #[.int .i64 (n : Int), .int .i64 (m : Int), .slice A N c] 26)).alloc (.cells #[.int .i64 kind, .slice Ao lo co] 34)).heap.size = w.heap.size + 1 + 1 by simp] at this
  have BW : Below w.heap.size w (((w.alloc (.cells #[.int .i64 (n : Int), .int .i64 (m : Int), .slice A N c] 26)).alloc (.cells #[.int .i64 kind, .slice Ao lo co] 34)).alloc (.cells #[.int .i64 0, .int .i64 0, .slice none 0 0] 26)) := (((Below.refl _ _).alloc (Nat.le_refl _) _).alloc (by simp) _).alloc (by simp; omega) _
  have SW : (((w.alloc (.cells #[.int .i64 (n : Int), .int .i64 (m : Int), .slice A N c] 26)).alloc (.cells #[.int .i64 kind, .slice Ao lo co] 34)).alloc (.cells #[.int .i64 0, .int .i64 0, .slice none 0 0] 26)).heap.size = w.heap.size + 3 := by simp
  generalize (((w.alloc (.cells #[.int .i64 (n : Int), .int .i64 (m : Int), .slice A N c] 26)).alloc (.cells #[.int .i64 kind, .slice Ao lo co] 34)).alloc (.cells #[.int .i64 0, .int .i64 0, .slice none 0 0] 26)) = W0 at *
  have HY1 := Lib.hid Y1
  have HY3 := Lib.hid Y3
  have HBW := Lib.hid BW
  have HSW := Lib.hid SW
  have CL := Lib.hid (clear_any W0 _ g n m f L (HR.out.narrow.below BW))
  clear Y1 Y3 BW SW hu hd
  go_wp2_with fail
  refine CL.out.mono ?_
  rintro e w2 ⟨rfl, hring, hpast⟩
  have pg : w.heap.size ≠ g := by omega
  have p2g : w.heap.size + 1 + 1 ≠ g := by omega
  have tne : w.heap.size + 1 + 1 ≠ w.heap.size := by omega
  have B1 := HY1.out.past hpast pg
  have B3 := HY3.out.past hpast p2g
  have y0 := B1.c0
  have y1 := B1.c1
  have y2 := B1.c2
  have yf := B1.fz
  have z0 := B3.c0
  have z1 := B3.c1
  have z2 := B3.c2
  have zf := B3.fz
  have HRING := Lib.hid hring
  have HPAST := Lib.hid hpast
  clear hring hpast CL B1 B3
  go_wp2_with fail
  have FR := (HRING.out.set1 (q := w.heap.size) (by omega) (fun hh => by have := hh.2; omega) 2 (.slice none 0 0)).set3 (q := w.heap.size + 1 + 1) (by omega) (fun hh => by have := hh.2; omega) (.int .i64 (n : Int)) (.int .i64 (m : Int)) (.slice none 0 0)
  have PP := past_set3 (q := w.heap.size + 1 + 1) (past_set1 (q := w.heap.size) ((Past.of_below (g := g) HBW.out).trans HPAST.out) (Nat.le_refl _) 2 (.slice none 0 0)) (by omega) (.int .i64 (n : Int)) (.int .i64 (m : Int)) (.slice none 0 0)
  exact bodyPost_ret (v := .tuple #[.agg #[.int .i64 (n : Int), .int .i64 (m : Int), .slice none 0 0], .bool true]) (by simp [results, Try.results11, go_sem, z0, z1, z2]) rfl ⟨none, 0, 0, [], rfl,
    FR.more (fun b hb => .inl hb.1) (fun hh => by
      rcases hh with h1 | h1
      · exact HR.out.nog h1
      · omega),
    refR_nil _ _, PP⟩

theorem do_any (w : World) (Q : Nat → Prop) (g n m f : Nat) (L : List (List Int)) (hR : RingF w Q g n m f L) (Qr : Nat → Prop) (A : Option Addr) (c : Nat) (hM : RefR w Qr A c L) (hQr : ¬ Qr g) (kind : Int)
    (Ao : Option Addr) (lo co : Nat) (ol : List Int) (hAo : Ao = none → co = 0) (hro : Reads w w.heap.size 1 Ao lo (U ol)) (hlo : lo ≤ co) (hco : co ≤ maxLen) :
    Calls Try.prog 11 #[.pointer (some ⟨g, 0, none⟩), .agg #[.int .i64 (n : Int), .int .i64 (m : Int), .slice A L.length c], .agg #[.int .i64 kind, .slice Ao lo co]] w fun e w' => ∃ A' c' f' L', e = .returned (.tuple #[.agg #[.int .i64 (n : Int), .int .i64 (m : Int), .slice A' L'.length c'], .bool true]) ∧
      RingF w' (fun b => Q b ∨ (w.heap.size ≤ b ∧ b < w'.heap.size)) g n m f' L' ∧ RefR w' (fun b => Qr b ∨ (w.heap.size ≤ b ∧ b < w'.heap.size)) A' c' L' ∧ Past g w w' := by
  obtain ⟨u, hu⟩ : ∃ u : Nat, IntKind.u64.wrap kind = (u : Int) := ⟨(IntKind.u64.wrap kind).toNat, by rw [IntKind.wrap_u64]; omega⟩
  rcases (show (u : Int) % 4 = 0 ∨ (u : Int) % 4 = 1 ∨ (u : Int) % 4 = 2 ∨ (u : Int) % 4 = 3 by omega) with h | h | h | h
  · exact do_put w Q g n m f L hR Qr A c hM hQr kind u hu h Ao lo co _ ol hAo hro hlo hco rfl
  · exact do_take w Q g n m f L hR Qr A c hM hQr kind u hu h Ao lo co
  · exact do_peek w Q g n m f L hR Qr A c hM hQr kind u hu h Ao lo co
  · exact do_clear w Q g n m f L hR Qr A c hM hQr kind u hu h Ao lo co
end Go.Proofs.Ytpejmkdmjlfgpaa
