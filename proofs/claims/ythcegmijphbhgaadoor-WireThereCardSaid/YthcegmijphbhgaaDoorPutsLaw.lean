/-
  WirePuts, the walk: for any list of bytes, any uint64, any text and any uint32 the Go text answers true, and writes nothing that was there. Condition: the table of the checksum lies where the program's text lays it.
-/
import Derived.Test.YthcegmijphbhgaaDoorRef
namespace Go.Proofs.YthcegmijphbhgaaDoor
open Go.RowKit
set_option linter.unusedSimpArgs false
set_option linter.unusedVariables false

theorem own_new0 (B : Nat) (w : World) (hB : B ≤ w.heap.size) : (w.alloc (.cells #[] 5)).ownsRow B 5 1 (.slice (some ⟨w.heap.size, 0, none⟩) 0 0) 0 (U []) := own_new B w ([] : List Value) hB (by simp)

set_option maxHeartbeats 2000000 in
theorem puts_walk (a : Option Addr) (len cap : Nat) (zs : List Int) (m : Int) (s : ByteArray) (x : Int) (w : World) (h0 : IsRow .u8 w a len cap zs) (hm : (Lit.int .u64 m).wf = true) (hs : s.size ≤ maxLen) (hx : (Lit.int .u32 x).wf = true) (hl : Laid w) :
    Calls Tryd.prog 3 #[.slice a len cap, .int .u64 m, .string s, .int .u32 x] w fun e w' => e = .returned (.bool true) ∧ Below w.heap.size w w' := by
  obtain ⟨i0, hi, hz0, hz1, hz2⟩ := info_parts byte_info
  obtain ⟨k, hk, hk1, hk2⟩ : ∃ k : Nat, min (len : Int) 200 = (k : Int) ∧ k ≤ len ∧ k ≤ 200 := ⟨min len 200, by omega, by omega, by omega⟩
  obtain ⟨q, hq, hq1, hq2⟩ : ∃ q : Nat, min (s.size : Int) 200 = (q : Int) ∧ q ≤ s.size ∧ q ≤ 200 := ⟨min s.size 200, by omega, by omega, by omega⟩
  obtain ⟨hr, hy, hlen, hc1, hc2⟩ := reads_row h0 k hk1
  have kc : (k : Int) ≤ (cap : Int) := by omega
  have k0 : (0 : Int) ≤ (k : Int) := by omega
  have q0 : (0 : Int) ≤ (q : Int) := by omega
  have q1 : (q : Int) ≤ (s.size : Int) := by omega
  clear h0
  go_enter Tryd.func3, Tryd.ntmps3
  go_wp2_with fail
  refine wp_region_held_drew (S := (fun w' => Below w.heap.size w w')) (by kernel_rfl) ?_ (fun hHeld => ?_)
  · exact (Below.refl _ _).drew
  refine takeD (i := 0) (d := some 13) (v := ?_) _ rfl rfl (by kernel_rfl) (by kernel_rfl) (by kernel_rfl) (fun _ _ _ h => h) (by rfl) ?_ (by assumption) ?_
  rotate_left
  · (intro w hSw; (try dsimp only at hSw); go_simp) <;> with_reducible rfl
  try simp only [Act.put, List.setIfInBounds_toArray, List.set_cons_zero, List.set_cons_succ]
  refine takeD (i := 1) (d := some 14) (v := ?_) _ rfl rfl (by kernel_rfl) (by kernel_rfl) (by kernel_rfl) (fun _ _ _ h => h) (by rfl) ?_ (by assumption) ?_
  rotate_left
  · (intro w hSw; (try dsimp only at hSw); go_simp) <;> with_reducible rfl
  try simp only [Act.put, List.setIfInBounds_toArray, List.set_cons_zero, List.set_cons_succ]
  refine takeD (i := 2) (d := some 15) (v := ?_) _ rfl rfl (by kernel_rfl) (by kernel_rfl) (by kernel_rfl) (fun _ _ _ h => h) (by rfl) ?_ (by assumption) ?_
  rotate_left
  · (intro w hSw; (try dsimp only at hSw); go_simp) <;> with_reducible rfl
  try simp only [Act.put, List.setIfInBounds_toArray, List.set_cons_zero, List.set_cons_succ]
  refine takeD (i := 3) (d := some 16) (v := ?_) _ rfl rfl (by kernel_rfl) (by kernel_rfl) (by kernel_rfl) (fun _ _ _ h => h) (by rfl) ?_ (by assumption) ?_
  rotate_left
  · (intro w hSw; (try dsimp only at hSw); go_simp) <;> with_reducible rfl
  try simp only [Act.put, List.setIfInBounds_toArray, List.set_cons_zero, List.set_cons_succ]
  refine takeD (i := 4) (d := some 17) (v := ?_) _ rfl rfl (by kernel_rfl) (by kernel_rfl) (by kernel_rfl) (fun _ _ _ h => h) (by rfl) ?_ (by assumption) ?_
  rotate_left
  · (intro w hSw; (try dsimp only at hSw); go_simp) <;> with_reducible rfl
  try simp only [Act.put, List.setIfInBounds_toArray, List.set_cons_zero, List.set_cons_succ]
  refine takeD (i := 5) (d := some 18) (v := ?_) _ rfl rfl (by kernel_rfl) (by kernel_rfl) (by kernel_rfl) (fun _ _ _ h => h) (by rfl) ?_ (by assumption) ?_
  rotate_left
  · (intro w hSw; (try dsimp only at hSw); go_simp) <;> with_reducible rfl
  try simp only [Act.put, List.setIfInBounds_toArray, List.set_cons_zero, List.set_cons_succ]
  refine takeD (i := 6) (d := some 19) (v := ?_) _ rfl rfl (by kernel_rfl) (by kernel_rfl) (by kernel_rfl) (fun _ _ _ h => h) (by rfl) ?_ (by assumption) ?_
  rotate_left
  · (intro w hSw; (try dsimp only at hSw); go_simp) <;> with_reducible rfl
  try simp only [Act.put, List.setIfInBounds_toArray, List.set_cons_zero, List.set_cons_succ]
  refine takeD (i := 7) (d := some 20) (v := ?_) _ rfl rfl (by kernel_rfl) (by kernel_rfl) (by kernel_rfl) (fun _ _ _ h => h) (by rfl) ?_ (by assumption) ?_
  rotate_left
  · (intro w hSw; (try dsimp only at hSw); go_simp) <;> with_reducible rfl
  try simp only [Act.put, List.setIfInBounds_toArray, List.set_cons_zero, List.set_cons_succ]
  refine takeD (i := 8) (d := some 21) (v := ?_) _ rfl rfl (by kernel_rfl) (by kernel_rfl) (by kernel_rfl) (fun _ _ _ h => h) (by rfl) ?_ (by assumption) ?_
  rotate_left
  · (intro w hSw; (try dsimp only at hSw); go_simp) <;> with_reducible rfl
  try simp only [Act.put, List.setIfInBounds_toArray, List.set_cons_zero, List.set_cons_succ]
  refine takeD (i := 9) (d := some 22) (v := ?_) _ rfl rfl (by kernel_rfl) (by kernel_rfl) (by kernel_rfl) (fun _ _ _ h => h) (by rfl) ?_ (by assumption) ?_
  rotate_left
  · (intro w hSw; (try dsimp only at hSw); go_simp) <;> with_reducible rfl
  try simp only [Act.put, List.setIfInBounds_toArray, List.set_cons_zero, List.set_cons_succ]
  refine takeD (i := 10) (d := some 0) (v := ?_) _ rfl rfl (by kernel_rfl) (by kernel_rfl) (by kernel_rfl) (fun _ _ _ h => h) (by rfl) ?_ (by assumption) ?_
  rotate_left
  · (intro w hSw; (try dsimp only at hSw); go_simp) <;> with_reducible rfl
  try simp only [Act.put, List.setIfInBounds_toArray, List.set_cons_zero, List.set_cons_succ]
  refine takeD (i := 11) (d := some 2) (v := ?_) _ rfl rfl (by kernel_rfl) (by kernel_rfl) (by kernel_rfl) (fun _ _ _ h => h) (by rfl) ?_ (by assumption) ?_
  rotate_left
  · (intro w hSw; (try dsimp only at hSw); go_simp) <;> with_reducible rfl
  try simp only [Act.put, List.setIfInBounds_toArray, List.set_cons_zero, List.set_cons_succ]
  refine wpAnyH_done (by kernel_rfl) ?_ _
  have hr1 : Reads w.drew w.drew.heap.size 1 a k (U (zs.take k)) := hr
  have hl1 : Laid w.drew := hl
  have hex : (s.extract 0 q).size = q := by simp; omega
  generalize hs' : s.extract 0 q = s' at hex ⊢
  obtain ⟨bl, hbl⟩ : ∃ bl, zs.take k = bl := ⟨_, rfl⟩
  rw [hbl] at hr1 hy hlen
  clear hr hl hs' hk hq hbl hy
  have bel0 : Below w.heap.size w w.drew := hHeld
  generalize w.drew = wd at hr1 hl1 bel0 hHeld ⊢
  clear hHeld
  obtain ⟨mn, rfl⟩ := Int.eq_ofNat_of_zero_le (bounds_u64 hm).1
  have hmn : mn < 18446744073709551616 := by have := (bounds_u64 hm).2; omega
  obtain ⟨x0, x1⟩ := bounds_u32 hx
  have vl := varB_len mn hmn
  have vl2 := varB_len s'.size (by omega)
  have PV := fun (A : Option Addr) (c : Nat) (W : World) (h : Reads W W.heap.size 1 A k (U bl)) => putVar_any A k c bl mn W h (by omega) hmn
  have RV := fun (W : World) => rvar_any mn W hmn
  obtain ⟨V, hV⟩ : ∃ V, Hid (varB mn = V) := ⟨_, rfl⟩
  obtain ⟨T, hT⟩ : ∃ T, Hid (varB s'.size = T) := ⟨_, rfl⟩
  have PT := fun (A : Option Addr) (c : Nat) (W : World) (h : Reads W W.heap.size 1 A k (U bl)) => putText_any A k c bl s' W h (by omega) (by omega)
  have RT := fun (W : World) => rtext_any s' W (by omega)
  have PW := fun (A : Option Addr) (c : Nat) (W : World) (h : Reads W W.heap.size 1 A k (U bl)) => putWord_any A k c bl x W h (by omega) x0 x1
  have RW := fun (W : World) => rword_any x W x0 x1
  rw [hV.out] at vl PV RV
  rw [hT.out] at vl2 PT RT
  have PV := Lib.hid PV
  have RV := Lib.hid RV
  have PT : Hid (∀ (A : Option Addr) (c : Nat) (W : World), Reads W W.heap.size 1 A k (U bl) → Calls Tryd.prog 11 #[.slice A k c, .string s'] W (Own W.heap.size W (k + (T.length + s'.size)) (bl ++ (T ++ sB s')))) := fun A c W h => by
    have := PT A c W h
    rwa [Nat.add_assoc, List.append_assoc] at this
  have RT := Lib.hid RT
  have PW := Lib.hid PW
  have RW := Lib.hid RW
  have HX := Lib.hid hex
  have sz : s'.size ≤ 200 := by omega
  have S : Hid (∀ (A A' : Option Addr) (n c c' : Nat) (l : List Int) (W : World) (B B' : Nat), Reads W B 1 A n (U l) → Reads W B' 1 A' n (U l) → n ≤ 1099511627776 → Calls Tryd.prog 14 #[.slice A n c, .slice A' n c'] W fun e w' => e = .returned (.bool true) ∧ Below W.heap.size W w') := fun A A' n c c' l W B B' h1 h2 h3 => by
    have := same_any A A' n n c c' l l W B B' h1 h2 h3 h3
    simpa using this
  have HL := Lib.hid hl1
  have HLEN := Lib.hid hlen
  clear hmn hm hx hex hl1 hlen hs q1 q0
  -- was
  have belr := Below.refl wd.heap.size wd
  go_wp2_with (at_builtin; refine wpList_append_any _ rfl (.tmp 23) (.tmp 24) _ rfl wd.heap.size 5 i0 _ 1 1 Tryd.underlying22 hi hz0 hz1 hz2 rfl (by omega) (.slice (some ⟨wd.heap.size, 0, none⟩) 0 0) 0 (U []) rfl (own_new0 wd.heap.size wd (Nat.le_refl _)) _ a k cap (U bl) rfl ((hr1.below ((Below.refl _ _).alloc (Nat.le_refl _) (.cells #[] 5)))) (U_one _) ?c2 ?c3 ?c4 ?_)
  case c2 => unfold maxLen; omega
  case c3 => omega
  case c4 => have := belr.size; first | (simp; done) | (simp; omega) | omega
  intro owv w1 owh owg _
  have owh' : w1.ownsRow wd.heap.size 5 1 owv (k) (U (bl)) := by simpa using owh
  obtain ⟨owA, owc, hv, ow, d1⟩ := own_of (own_new0 wd.heap.size wd (Nat.le_refl _)) (belr.alloc (Nat.le_refl _) _) (by have := belr.size; first | (simp; done) | (simp; omega) | omega) owh' owg
  rw [hv]
  clear hv owh owh' owg
  have hr2 : Reads w1 w1.heap.size 1 a k (U bl) := (hr1.below d1).more d1.size
  have lw1 : Laid w1 := HL.out.later d1
  have b1 := bel0.trans (d1.mono bel0.size)
  go_wp2_with fail
  refine (PV.out a cap w1 hr2).mono ?_
  rintro e w2 ⟨Ax, cx, rfl, ox, hb⟩
  have hr3 := (hr2.below hb).more hb.size
  have ow2 := own_below ow hb
  have b2 := b1.trans (hb.mono b1.size)
  have lw2 := lw1.later hb
  clear hb hr2 ow b1 lw1
  go_wp2_with fail
  refine (PT.out a cap w2 hr3).mono ?_
  rintro e w3 ⟨Ay, cy, rfl, oy, hb⟩
  have hr4 := (hr3.below hb).more hb.size
  have ow3 := own_below ow2 hb
  have ox3 := own_below ox hb
  have b3 := b2.trans (hb.mono b2.size)
  have lw3 := lw2.later hb
  clear hb hr3 ow2 ox b2 lw2
  go_wp2_with fail
  refine (PW.out a cap w3 hr4).mono ?_
  rintro e w4 ⟨Az, cz, rfl, oz, hb⟩
  have Rb := (hr4.below hb).more hb.size
  have Rw := Reads.of_own (own_below ow3 hb)
  have Rx := Reads.of_own (own_below ox3 hb)
  have Ry := Reads.of_own (own_below oy hb)
  have Rz := Reads.of_own oz
  have b4 := b3.trans (hb.mono b3.size)
  have lw4 := lw3.later hb
  clear hb hr4 ow3 ox3 oy oz b3 lw3
  have B4 := Lib.hid b4
  clear b4
  go_wp2_with fail
  refine (known_any w4 lw4).mono ?_
  rintro e w5 ⟨rfl, c5⟩
  clear lw4
  go_wp2_with fail
  refine (S.out a owA (k) cap owc (bl) _ _ _ (Rb.below c5) (Rw.below c5) (by omega)).mono ?_
  rintro e w6 ⟨rfl, hb⟩
  have c6 := c5.trans (hb.mono c5.size)
  clear hb
  clear c5
  -- group 7
  go_wp2_with (at_builtin; refine wpList_append_anyG _ (by rfl) (.tmp 43) (.tmp 44) _ rfl w4.heap.size 5 i0 _ 1 1 Tryd.underlying22 hi hz0 hz1 hz2 rfl (by omega) (.slice (some ⟨w6.heap.size, 0, none⟩) 0 0) 0 (U []) rfl (own_new0 w4.heap.size w6 c6.size) _ owA k owc (U bl) rfl ((Rw.below (c6.alloc c6.size (.cells #[] 5)))) (U_one _) ?c2 ?c3 ?c4 ?_)
  case c2 => unfold maxLen; omega
  case c3 => omega
  case c4 => have := c6.size; first | (simp; done) | (simp; omega) | omega
  intro o7v w71 o7h o7g _
  have o7h' : w71.ownsRow w4.heap.size 5 1 o7v (k) (U (bl)) := by simpa using o7h
  obtain ⟨o7A, o7c, hv, o7, b71⟩ := own_of (own_new0 w4.heap.size w6 c6.size) (c6.alloc c6.size _) (by have := c6.size; first | (simp; done) | (simp; omega) | omega) o7h' o7g
  rw [hv]
  clear hv o7h o7h' o7g
  go_wp2_with fail
  refine (RV.out _).mono ?_
  rintro e w72 ⟨A72, c72, rfl, r72, hb⟩
  have o7b := own_below o7 hb
  have b72 := b71.trans (hb.mono b71.size)
  clear hb o7
  go_wp2_with (at_builtin; refine wpList_append_anyG _ (by rfl) (.tmp 45) (.tmp 47) _ rfl w4.heap.size 5 i0 _ 1 1 Tryd.underlying22 hi hz0 hz1 hz2 rfl (by omega) (.slice o7A k o7c) k (U bl) rfl (o7b) _ A72 V.length c72 (U V) rfl (Reads.of_own r72) (U_one _) ?c2 ?c3 ?c4 ?_)
  case c2 => unfold maxLen; omega
  case c3 => omega
  case c4 => have := b72.size; first | (simp; done) | (simp; omega) | omega
  intro p7v w73 p7h p7g _
  have p7h' : w73.ownsRow w4.heap.size 5 1 p7v (k + (V.length)) (U (bl ++ V)) := by simpa using p7h
  obtain ⟨p7A, p7c, hv, p7, b73⟩ := own_of (o7b) (b72) (by have := b72.size; first | (simp; done) | (simp; omega) | omega) p7h' p7g
  rw [hv]
  clear hv p7h p7h' p7g
  go_wp2_with fail
  refine (S.out Ax p7A (k + (V.length)) cx p7c (bl ++ V) _ _ _ (Rx.below b73) (Reads.of_own p7) (by omega)).mono ?_
  rintro e w74 ⟨rfl, hb⟩
  have b74 := b73.trans (hb.mono b73.size)
  clear hb
  -- group 8
  go_wp2_with (at_builtin; refine wpList_append_anyG _ (by rfl) (.tmp 53) (.tmp 54) _ rfl w4.heap.size 5 i0 _ 1 1 Tryd.underlying22 hi hz0 hz1 hz2 rfl (by omega) (.slice (some ⟨w74.heap.size, 0, none⟩) 0 0) 0 (U []) rfl (own_new0 w4.heap.size w74 b74.size) _ owA k owc (U bl) rfl ((Rw.below (b74.alloc b74.size (.cells #[] 5)))) (U_one _) ?c2 ?c3 ?c4 ?_)
  case c2 => unfold maxLen; omega
  case c3 => omega
  case c4 => have := b74.size; first | (simp; done) | (simp; omega) | omega
  intro o8v w81 o8h o8g _
  have o8h' : w81.ownsRow w4.heap.size 5 1 o8v (k) (U (bl)) := by simpa using o8h
  obtain ⟨o8A, o8c, hv, o8, b81⟩ := own_of (own_new0 w4.heap.size w74 b74.size) (b74.alloc b74.size _) (by have := b74.size; first | (simp; done) | (simp; omega) | omega) o8h' o8g
  rw [hv]
  clear hv o8h o8h' o8g
  go_wp2_with fail
  refine (RT.out _).mono ?_
  rintro e w82 ⟨A82, c82, rfl, r82, hb⟩
  have o8b := own_below o8 hb
  have b82 := b81.trans (hb.mono b81.size)
  clear hb o8
  go_wp2_with (at_builtin; refine wpList_append_anyG _ (by rfl) (.tmp 55) (.tmp 57) _ rfl w4.heap.size 5 i0 _ 1 1 Tryd.underlying22 hi hz0 hz1 hz2 rfl (by omega) (.slice o8A k o8c) k (U bl) rfl (o8b) _ A82 (T.length + s'.size) c82 (U (T ++ sB s')) rfl (Reads.of_own r82) (U_one _) ?c2 ?c3 ?c4 ?_)
  case c2 => unfold maxLen; omega
  case c3 => omega
  case c4 => have := b82.size; first | (simp; done) | (simp; omega) | omega
  intro p8v w83 p8h p8g _
  have p8h' : w83.ownsRow w4.heap.size 5 1 p8v (k + ((T.length + s'.size))) (U (bl ++ (T ++ sB s'))) := by simpa using p8h
  obtain ⟨p8A, p8c, hv, p8, b83⟩ := own_of (o8b) (b82) (by have := b82.size; first | (simp; done) | (simp; omega) | omega) p8h' p8g
  rw [hv]
  clear hv p8h p8h' p8g
  go_wp2_with fail
  refine (S.out Ay p8A (k + ((T.length + s'.size))) cy p8c (bl ++ (T ++ sB s')) _ _ _ (Ry.below b83) (Reads.of_own p8) (by omega)).mono ?_
  rintro e w84 ⟨rfl, hb⟩
  have b84 := b83.trans (hb.mono b83.size)
  clear hb
  -- group 9
  go_wp2_with (at_builtin; refine wpList_append_anyG _ (by rfl) (.tmp 63) (.tmp 64) _ rfl w4.heap.size 5 i0 _ 1 1 Tryd.underlying22 hi hz0 hz1 hz2 rfl (by omega) (.slice (some ⟨w84.heap.size, 0, none⟩) 0 0) 0 (U []) rfl (own_new0 w4.heap.size w84 b84.size) _ owA k owc (U bl) rfl ((Rw.below (b84.alloc b84.size (.cells #[] 5)))) (U_one _) ?c2 ?c3 ?c4 ?_)
  case c2 => unfold maxLen; omega
  case c3 => omega
  case c4 => have := b84.size; first | (simp; done) | (simp; omega) | omega
  intro o9v w91 o9h o9g _
  have o9h' : w91.ownsRow w4.heap.size 5 1 o9v (k) (U (bl)) := by simpa using o9h
  obtain ⟨o9A, o9c, hv, o9, b91⟩ := own_of (own_new0 w4.heap.size w84 b84.size) (b84.alloc b84.size _) (by have := b84.size; first | (simp; done) | (simp; omega) | omega) o9h' o9g
  rw [hv]
  clear hv o9h o9h' o9g
  go_wp2_with fail
  refine (RW.out _).mono ?_
  rintro e w92 ⟨A92, c92, rfl, r92, hb⟩
  have o9b := own_below o9 hb
  have b92 := b91.trans (hb.mono b91.size)
  clear hb o9
  go_wp2_with (at_builtin; refine wpList_append_anyG _ (by rfl) (.tmp 65) (.tmp 67) _ rfl w4.heap.size 5 i0 _ 1 1 Tryd.underlying22 hi hz0 hz1 hz2 rfl (by omega) (.slice o9A k o9c) k (U bl) rfl (o9b) _ A92 4 c92 (U (wordB x)) rfl (Reads.of_own r92) (U_one _) ?c2 ?c3 ?c4 ?_)
  case c2 => unfold maxLen; omega
  case c3 => omega
  case c4 => have := b92.size; first | (simp; done) | (simp; omega) | omega
  intro p9v w93 p9h p9g _
  have p9h' : w93.ownsRow w4.heap.size 5 1 p9v (k + (4)) (U (bl ++ (wordB x))) := by simpa using p9h
  obtain ⟨p9A, p9c, hv, p9, b93⟩ := own_of (o9b) (b92) (by have := b92.size; first | (simp; done) | (simp; omega) | omega) p9h' p9g
  rw [hv]
  clear hv p9h p9h' p9g
  go_wp2_with fail
  refine (S.out Az p9A (k + (4)) cz p9c (bl ++ (wordB x)) _ _ _ (Rz.below b93) (Reads.of_own p9) (by omega)).mono ?_
  rintro e w94 ⟨rfl, hb⟩
  have b94 := b93.trans (hb.mono b93.size)
  clear hb
  go_wp2_with fail
  go_ret
  exact ⟨rfl, B4.out.trans (b94.mono B4.out.size)⟩
end Go.Proofs.YthcegmijphbhgaaDoor
