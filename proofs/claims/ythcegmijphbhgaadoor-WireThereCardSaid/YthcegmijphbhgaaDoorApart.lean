/-
  WireApart, the walk: for any list of bytes and any two uint64s the Go text answers true, and writes nothing that was there. Condition: the table of the checksum lies where the program's text lays it.
-/
import Derived.Test.YthcegmijphbhgaaDoorPutsLaw
namespace Go.Proofs.YthcegmijphbhgaaDoor
open Go.RowKit
set_option linter.unusedSimpArgs false
set_option linter.unusedVariables false

/-- The loop's relation: the row stays a row, whatever its bytes. -/
def IncRel (g N cy : Nat) (W : World) (i : Value) (wr : World) : Prop :=
  ∃ (j : Nat) (l' : List Int), j ≤ N ∧ i = .int .i64 j ∧ wr.ownsRow W.heap.size 5 1 (.slice (some ⟨g, 0, none⟩) N cy) N (U l') ∧ Below W.heap.size W wr
theorem stored_u {w : World} {B g N cy : Nat} {l : List Int} (h : w.ownsRow B 5 1 (.slice (some ⟨g, 0, none⟩) N cy) N (U l)) (j : Nat) (x : Int) : (w.setCell ⟨g, j, none⟩ (.int .u8 x)).ownsRow B 5 1 (.slice (some ⟨g, 0, none⟩) N cy) N (U (l.set j x)) := by
  have := (h.stored j (.int .u8 x)).1
  simpa [U, List.map_set] using this

set_option maxHeartbeats 2000000 in
theorem apart_walk (a : Option Addr) (len cap : Nat) (zs : List Int) (n m : Int) (w : World) (h0 : IsRow .u8 w a len cap zs) (hn : (Lit.int .u64 n).wf = true) (hm : (Lit.int .u64 m).wf = true) (hl : Laid w) :
    Calls Tryd.prog 4 #[.slice a len cap, .int .u64 n, .int .u64 m] w fun e w' => e = .returned (.bool true) ∧ Below w.heap.size w w' := by
  obtain ⟨i0, hi, hz0, hz1, hz2⟩ := info_parts byte_info
  obtain ⟨k, hk, hk1, hk2⟩ : ∃ k : Nat, min (len : Int) 100 = (k : Int) ∧ k ≤ len ∧ k ≤ 100 := ⟨min len 100, by omega, by omega, by omega⟩
  obtain ⟨hr, hy, hlen, hc1, hc2⟩ := reads_row h0 k hk1
  obtain ⟨bl, hbl⟩ : ∃ bl, zs.take k = bl := ⟨_, rfl⟩
  rw [hbl] at hr hlen
  have kc : (k : Int) ≤ (cap : Int) := by omega
  have k0 : (0 : Int) ≤ (k : Int) := by omega
  clear h0 hy hbl
  obtain ⟨nn, rfl⟩ := Int.eq_ofNat_of_zero_le (bounds_u64 hn).1
  have hnn : nn < 18446744073709551616 := by have := (bounds_u64 hn).2; omega
  obtain ⟨mn, rfl⟩ := Int.eq_ofNat_of_zero_le (bounds_u64 hm).1
  have hmn : mn < 18446744073709551616 := by have := (bounds_u64 hm).2; omega
  have vl := varB_len nn hnn
  have vl2 := varB_len mn hmn
  have PV := fun (A : Option Addr) (c : Nat) (W : World) (h : Reads W W.heap.size 1 A k (U bl)) => putVar_any A k c bl nn W h (by omega) hnn
  have PM := fun (A : Option Addr) (c : Nat) (W : World) (h : Reads W W.heap.size 1 A k (U bl)) => putVar_any A k c bl mn W h (by omega) hmn
  have RV := fun (W : World) => rvar_any nn W hnn
  have tp : 1 ≤ (varB mn).length := by unfold varB; simp
  obtain ⟨V, hV⟩ : ∃ V, Hid (varB nn = V) := ⟨_, rfl⟩
  obtain ⟨T, hT⟩ : ∃ T, Hid (varB mn = T) := ⟨_, rfl⟩
  rw [hV.out] at vl PV RV
  rw [hT.out] at vl2 PM tp
  have PV := Lib.hid PV
  have RV := Lib.hid RV
  have PM := Lib.hid PM
  have S : Hid (∀ (A A' : Option Addr) (n c c' : Nat) (l : List Int) (W : World) (B B' : Nat), Reads W B 1 A n (U l) → Reads W B' 1 A' n (U l) → n ≤ 1099511627776 → Calls Tryd.prog 14 #[.slice A n c, .slice A' n c'] W fun e w' => e = .returned (.bool true) ∧ Below W.heap.size W w') := fun A A' n c c' l W B B' h1 h2 h3 => by
    have := same_any A A' n n c c' l l W B B' h1 h2 h3 h3
    simpa using this
  have HL := Lib.hid hl
  have HLEN := Lib.hid hlen
  clear hmn hnn hm hn hl hlen
  go_enter Tryd.func4, Tryd.ntmps4
  go_wp2_with fail
  refine wp_region_held_drew (S := (fun w' => Below w.heap.size w w')) (by kernel_rfl) ?_ (fun hHeld => ?_)
  · exact (Below.refl _ _).drew
  refine takeD (i := 1) (d := some 12) (v := ?_) _ rfl rfl (by kernel_rfl) (by kernel_rfl) (by kernel_rfl) (fun _ _ _ h => h) (by rfl) ?_ (by assumption) ?_
  rotate_left
  · (intro w hSw; (try dsimp only at hSw); go_simp) <;> with_reducible rfl
  try simp only [Act.put, List.setIfInBounds_toArray, List.set_cons_zero, List.set_cons_succ]
  refine takeD (i := 2) (d := some 13) (v := ?_) _ rfl rfl (by kernel_rfl) (by kernel_rfl) (by kernel_rfl) (fun _ _ _ h => h) (by rfl) ?_ (by assumption) ?_
  rotate_left
  · (intro w hSw; (try dsimp only at hSw); go_simp) <;> with_reducible rfl
  try simp only [Act.put, List.setIfInBounds_toArray, List.set_cons_zero, List.set_cons_succ]
  refine takeD (i := 3) (d := some 14) (v := ?_) _ rfl rfl (by kernel_rfl) (by kernel_rfl) (by kernel_rfl) (fun _ _ _ h => h) (by rfl) ?_ (by assumption) ?_
  rotate_left
  · (intro w hSw; (try dsimp only at hSw); go_simp) <;> with_reducible rfl
  try simp only [Act.put, List.setIfInBounds_toArray, List.set_cons_zero, List.set_cons_succ]
  refine takeD (i := 4) (d := some 15) (v := ?_) _ rfl rfl (by kernel_rfl) (by kernel_rfl) (by kernel_rfl) (fun _ _ _ h => h) (by rfl) ?_ (by assumption) ?_
  rotate_left
  · (intro w hSw; (try dsimp only at hSw); go_simp) <;> with_reducible rfl
  try simp only [Act.put, List.setIfInBounds_toArray, List.set_cons_zero, List.set_cons_succ]
  refine takeD (i := 5) (d := some 16) (v := ?_) _ rfl rfl (by kernel_rfl) (by kernel_rfl) (by kernel_rfl) (fun _ _ _ h => h) (by rfl) ?_ (by assumption) ?_
  rotate_left
  · (intro w hSw; (try dsimp only at hSw); go_simp) <;> with_reducible rfl
  try simp only [Act.put, List.setIfInBounds_toArray, List.set_cons_zero, List.set_cons_succ]
  refine wpAnyH_ready (rs := [0]) (by kernel_rfl) (by simp) ?_
  refine AllReadyH.cons rfl (fun K hK => ?_) AllReadyH.nil
  rw [if_pos (by rfl)]
  obtain ⟨wm, hrun, ownm, gm⟩ := run_make_own (P := Tryd.prog) w.drew w.heap.size 22 5 i0 _ 1 Tryd.underlying22 hi hz0 hz1 .i64 .i64 300 (by rw [hz2]; omega) (by unfold maxLen; omega) (Nat.le_refl _)
  have ownm' : wm.ownsRow w.heap.size 5 1 (.slice (some ⟨w.heap.size, 0, none⟩) 0 300) 0 (U []) := ownm
  have belm : Below w.heap.size w wm := ((Below.refl _ _).drew).grown gm (Nat.le_refl _) (by simp)
  have hrun' : (Instr.makeSlice 22 (.int .i64 0) (.int .i64 300)).run Tryd.prog w.drew = .ok (.slice (some ⟨w.heap.size, 0, none⟩) 0 300) wm := hrun
  unfold Oper.wp
  simp [execOp, Act.eval, hrun', Result.andThen]
  refine hK.out _ _ belm (fun hHeld2 => ?_)
  clear hK K
  try simp only [Act.put, List.setIfInBounds_toArray, List.set_cons_zero, List.set_cons_succ]
  refine wpAnyH_ready (rs := [6]) (by kernel_rfl) (by simp) ?_
  refine AllReadyH.cons rfl (fun K hK => ?_) AllReadyH.nil
  refine step_append_any wm rfl (.tmp 11) (.tmp 16) _ rfl w.heap.size 5 i0 _ 1 1 Tryd.underlying22 hi hz0 hz1 hz2 rfl (by omega) (.slice (some ⟨w.heap.size, 0, none⟩) 0 300) 0 (U []) rfl ownm' w.heap.size a k cap (U bl) rfl (hr.below belm) (U_one _) (by unfold maxLen; omega) (by omega) belm.size ?_
  intro obv w1 obh obg _
  have obh' : w1.ownsRow w.heap.size 5 1 obv k (U bl) := by simpa using obh
  obtain ⟨obA, obc, hv, ob, b1⟩ := own_of ownm' belm belm.size obh' obg
  rw [hv]
  clear hv obh obh' obg
  refine hK.out _ _ b1 (fun hHeld3 => ?_)
  clear hK K
  try simp only [Act.put, List.setIfInBounds_toArray, List.set_cons_zero, List.set_cons_succ]
  refine takeD (i := 7) (d := some 7) (v := ?_) _ rfl rfl (by kernel_rfl) (by kernel_rfl) (by kernel_rfl) (fun _ _ _ h => h) (by rfl) ?_ (by assumption) ?_
  rotate_left
  · (intro w hSw; (try dsimp only at hSw); go_simp) <;> with_reducible rfl
  try simp only [Act.put, List.setIfInBounds_toArray, List.set_cons_zero, List.set_cons_succ]
  refine wpAnyH_done (by kernel_rfl) ?_ _
  have lw1 := HL.out.later b1
  have rb1 := Reads.of_own ob
  clear hk hr kc k0 ownm ownm' gm hrun hrun' hHeld belm
  go_wp2_with fail
  refine (PV.out obA obc w1 rb1).mono ?_
  rintro e w2 ⟨Ax, cx, rfl, ox, hb⟩
  have b2 := b1.trans (hb.mono b1.size)
  have lw2 := Lib.hid (lw1.later hb)
  have Rb := (rb1.below hb).more hb.size
  have Rx := Reads.of_own ox
  clear hb lw1 rb1 b1 ob ox
  go_wp2_with fail
  refine (PM.out obA obc w2 Rb).mono ?_
  rintro e w3 ⟨Ay, cy, rfl, oy, b3⟩
  have B2 := Lib.hid b2
  clear b2
  have Rb3 := (Rb.below b3).more b3.size
  have Rx3 := (Rx.below b3).more b3.size
  have b30 := Below.refl w3.heap.size w3
  go_wp2_with (at_builtin; refine wpList_append_any _ rfl (.tmp 25) (.tmp 26) _ rfl w3.heap.size 5 i0 _ 1 1 Tryd.underlying22 hi hz0 hz1 hz2 rfl (by omega) (.slice (some ⟨w3.heap.size, 0, none⟩) 0 0) 0 (U []) rfl (own_new0 w3.heap.size w3 b30.size) _ obA k obc (U bl) rfl ((Rb3.below (b30.alloc b30.size (.cells #[] 5)))) (U_one _) ?c2 ?c3 ?c4 ?_)
  case c2 => unfold maxLen; omega
  case c3 => omega
  case c4 => have := b30.size; first | (simp; done) | (simp; omega) | omega
  intro o5v w51 o5h o5g _
  have o5h' : w51.ownsRow w3.heap.size 5 1 o5v (k) (U (bl)) := by simpa using o5h
  obtain ⟨o5A, o5c, hv, o5, b51⟩ := own_of (own_new0 w3.heap.size w3 b30.size) (b30.alloc b30.size _) (by have := b30.size; first | (simp; done) | (simp; omega) | omega) o5h' o5g
  rw [hv]
  clear hv o5h o5h' o5g
  go_wp2_with fail
  refine (RV.out _).mono ?_
  rintro e w52 ⟨A52, c52, rfl, r52, hb⟩
  have o5b := own_below o5 hb
  have b52 := b51.trans (hb.mono b51.size)
  clear hb o5
  go_wp2_with (at_builtin; refine wpList_append_any _ rfl (.tmp 27) (.tmp 29) _ rfl w3.heap.size 5 i0 _ 1 1 Tryd.underlying22 hi hz0 hz1 hz2 rfl (by omega) (.slice o5A k o5c) k (U bl) rfl (o5b) _ A52 V.length c52 (U V) rfl (Reads.of_own r52) (U_one _) ?c2 ?c3 ?c4 ?_)
  case c2 => unfold maxLen; omega
  case c3 => omega
  case c4 => have := b52.size; first | (simp; done) | (simp; omega) | omega
  intro p5v w53 p5h p5g _
  have p5h' : w53.ownsRow w3.heap.size 5 1 p5v (k + V.length) (U (bl ++ V)) := by simpa using p5h
  obtain ⟨p5A, p5c, hv, p5, b53⟩ := own_of (o5b) (b52) (by have := b52.size; first | (simp; done) | (simp; omega) | omega) p5h' p5g
  rw [hv]
  clear hv p5h p5h' p5g
  go_wp2_with fail
  refine (S.out Ax p5A (k + V.length) cx p5c (bl ++ V) _ _ _ (Rx3.below b53) (Reads.of_own p5) (by omega)).mono ?_
  rintro e w54 ⟨rfl, hb⟩
  have b54 := b53.trans (hb.mono b53.size)
  clear hb
  have oy4 := own_below oy b54
  have b4 := b3.trans (b54.mono b3.size)
  obtain ⟨g, rfl⟩ : ∃ g, Ay = some ⟨g, 0, none⟩ := by
    rcases oy4.2 with ⟨_, h⟩ | ⟨g, _, _, h, _⟩
    · omega
    · injection h with h1 _ _
      exact ⟨g, h1⟩
  clear oy b3 Rb3 Rx3 b30 b54 b53 b52 b51
  have ne : ((k + T.length : Nat) : Int) ≠ 0 := by omega
  obtain ⟨N, hN⟩ : ∃ N, Hid (k + T.length = N) := ⟨_, rfl⟩
  have hNb : N ≤ 200 := by have := hN.out; omega
  have hg := (oy4.lt g rfl).1
  rw [hN.out] at oy4 ne
  go_wp2_with fail
  rw [hN.out]
  go_loopw [10] (fun i wr => IncRel g N cy w2 i wr) (fun i _ => N - (intOf i).toNat)
  case atStart => exact ⟨0, _, Nat.zero_le _, rfl, oy4, b4⟩
  case round =>
    obtain ⟨j, l', hj, rfl, oyr, b7⟩ := hrel
    clear oy4 b4
    by_cases hlt : j < N
    · have hcell := oyr.cellAt j (by omega)
      have hfr := oyr.frozenAt j
      have hl' : l'.length = N := by have := oyr.1; simpa using this
      obtain ⟨v, hv⟩ : ∃ v, Hid (l'.getD j 0 = v) := ⟨_, rfl⟩
      have hcell2 : wr.cell? ⟨g, j, none⟩ = some (.int .u8 v) := by
        rw [hcell, ← hv.out]; simp [List.getD_eq_getElem?_getD, List.getElem?_eq_getElem (show j < l'.length by omega)]
      have hst := fun x => stored_u oyr j x
      have HST := Lib.hid hst
      clear hcell hst
      go_wp2_with fail
      go_roundw
      case rel => first | exact ⟨j + 1, _, by omega, by go_num, HST.out _, b7.setCell hg _⟩ | ((repeat apply Exists.intro); exact ⟨⟨j + 1, _, by omega, by go_num, HST.out _, b7.setCell hg _⟩, rfl⟩)
      case measure => simp [intOf]; omega
    · obtain rfl : j = N := by omega
      clear oyr
      have Rb7 := (Rb.below b7).more b7.size
      have Rx7 := (Rx.below b7).more b7.size
      have lw7 := lw2.out.later b7
      have bel7 := Lib.hid (B2.out.trans (b7.mono B2.out.size))
      clear b7
      obtain ⟨w7, rfl⟩ : ∃ w7 : World, w7 = wr := ⟨_, rfl⟩
      go_wp2_with fail
      refine (known_any w7 lw7).mono ?_
      rintro e w8 ⟨rfl, b8⟩
      go_wp2_with (at_builtin; refine wpList_append_anyG _ (by rfl) (.tmp 53) (.tmp 54) _ rfl w7.heap.size 5 i0 _ 1 1 Tryd.underlying22 hi hz0 hz1 hz2 rfl (by omega) (.slice (some ⟨w8.heap.size, 0, none⟩) 0 0) 0 (U []) rfl (own_new0 w7.heap.size w8 b8.size) _ obA k obc (U bl) rfl ((Rb7.below (b8.alloc b8.size (.cells #[] 5)))) (U_one _) ?c2 ?c3 ?c4 ?_)
      case c2 => unfold maxLen; omega
      case c3 => omega
      case c4 => have := b8.size; first | (simp; done) | (simp; omega) | omega
      intro o9v w91 o9h o9g _
      have o9h' : w91.ownsRow w7.heap.size 5 1 o9v (k) (U (bl)) := by simpa using o9h
      obtain ⟨o9A, o9c, hv, o9, b91⟩ := own_of (own_new0 w7.heap.size w8 b8.size) (b8.alloc b8.size _) (by have := b8.size; first | (simp; done) | (simp; omega) | omega) o9h' o9g
      rw [hv]
      clear hv o9h o9h' o9g
      go_wp2_with fail
      refine (RV.out _).mono ?_
      rintro e w92 ⟨A92, c92, rfl, r92, hb⟩
      have o9b := own_below o9 hb
      have b92 := b91.trans (hb.mono b91.size)
      clear hb o9
      go_wp2_with (at_builtin; refine wpList_append_anyG _ (by rfl) (.tmp 55) (.tmp 57) _ rfl w7.heap.size 5 i0 _ 1 1 Tryd.underlying22 hi hz0 hz1 hz2 rfl (by omega) (.slice o9A k o9c) k (U bl) rfl (o9b) _ A92 V.length c92 (U V) rfl (Reads.of_own r92) (U_one _) ?c2 ?c3 ?c4 ?_)
      case c2 => unfold maxLen; omega
      case c3 => omega
      case c4 => have := b92.size; first | (simp; done) | (simp; omega) | omega
      intro p9v w93 p9h p9g _
      have p9h' : w93.ownsRow w7.heap.size 5 1 p9v (k + V.length) (U (bl ++ V)) := by simpa using p9h
      obtain ⟨p9A, p9c, hv, p9, b93⟩ := own_of (o9b) (b92) (by have := b92.size; first | (simp; done) | (simp; omega) | omega) p9h' p9g
      rw [hv]
      clear hv p9h p9h' p9g
      go_wp2_with fail
      refine (S.out Ax p9A (k + V.length) cx p9c (bl ++ V) _ _ _ (Rx7.below b93) (Reads.of_own p9) (by omega)).mono ?_
      rintro e w94 ⟨rfl, hb⟩
      have b94 := b93.trans (hb.mono b93.size)
      clear hb
      go_wp2_with fail
      go_ret
      exact ⟨rfl, bel7.out.trans (b94.mono bel7.out.size)⟩
end Go.Proofs.YthcegmijphbhgaaDoor
