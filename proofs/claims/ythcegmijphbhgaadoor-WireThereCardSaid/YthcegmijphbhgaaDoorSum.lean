/-
  The contracts of PutVar, PutText, of the reference's Same, and of Sum. Each statement bears its own conditions.
-/
import Derived.Test.YthcegmijphbhgaaDoorPuts
import Derived.Lib.AppendStr
import Derived.Lib.SlBytesConst
import Derived.Laws.IdiomStrings
namespace Go.Proofs.YthcegmijphbhgaaDoor
open Go.RowKit
set_option linter.unusedSimpArgs false
set_option linter.unusedVariables false

theorem putVar_any (A : Option Addr) (n c : Nat) (l : List Int) (m : Nat) (w : World) (h : Reads w w.heap.size 1 A n (U l)) (hn : n ≤ 1048576) (hm : m < 18446744073709551616) :
    Calls Tryd.prog 10 #[.slice A n c, .int .u64 (m : Int)] w (Own w.heap.size w (n + (varB m).length) (l ++ varB m)) := by
  have HM := Lib.hid hm
  clear hm
  go_enter Tryd.func10, Tryd.ntmps10
  go_wp2_with fail
  refine (fresh_any A n c 10 l w h (by omega)).mono ?_
  rintro e w1 ⟨A1, c1, rfl, ho, hb⟩
  go_wp2_with fail
  refine (addNumber_any w.heap.size A1 n c1 l m w1 ho hb.size (by omega) HM.out).mono ?_
  rintro e w2 ⟨A2, c2, rfl, ho2, hb2⟩
  go_wp2_with fail
  go_ret
  exact ⟨A2, c2, rfl, ho2, hb.trans hb2⟩

/-- A text's bytes. -/
def sB (s : ByteArray) : List Int := s.data.toList.map fun b => (b.toNat : Int)
theorem sB_cells (s : ByteArray) : Lib.strCells s = U (sB s) := by simp [Lib.strCells, sB, U]
theorem sB_len (s : ByteArray) : (sB s).length = s.size := by simp [sB]
theorem varB_len (m : Nat) (hm : m < 18446744073709551616) : (varB m).length ≤ 10 := by
  have := (bitLen_or m hm).2
  simp [varB, hiB_len]; omega

theorem putText_any (A : Option Addr) (n c : Nat) (l : List Int) (s : ByteArray) (w : World) (h : Reads w w.heap.size 1 A n (U l)) (hn : n ≤ 1048576) (hs : s.size ≤ 1048576) :
    Calls Tryd.prog 11 #[.slice A n c, .string s] w (Own w.heap.size w (n + (varB s.size).length + s.size) (l ++ varB s.size ++ sB s)) := by
  obtain ⟨i0, hi, hz0, hz1, hz2⟩ := info_parts byte_info
  have vl := varB_len s.size (by omega)
  obtain ⟨V, hV⟩ : ∃ V, Hid (varB s.size = V) := ⟨_, rfl⟩
  have AN := fun B A n c l w h1 h2 h3 => addNumber_any B A n c l s.size w h1 h2 h3 (by omega)
  rw [hV.out] at vl AN
  have HAN := Lib.hid AN
  rw [hV.out]
  clear AN hV
  go_enter Tryd.func11, Tryd.ntmps11
  go_wp2_with fail
  refine (fresh_any A n c (10 + s.size) l w h (by omega)).mono ?_
  rintro e w1 ⟨A1, c1, rfl, ho, hb⟩
  go_wp2_with fail
  refine (HAN.out w.heap.size A1 n c1 l w1 ho hb.size (by omega)).mono ?_
  rintro e w2 ⟨A2, c2, rfl, ho2, hb2⟩
  have hb3 := hb.trans hb2
  go_wp2_with (at_builtin; refine Lib.wpList_append_own_string _ rfl (.tmp 13) (.tmp 14) _ _ rfl w.heap.size 5 i0 Tryd.underlying22 Tryd.underlying9 hi hz0 hz1 hz2 (.slice A2 (n + V.length) c2) (n + V.length) (U (l ++ V)) rfl ho2 s rfl ?c2 ?c3 ?c4 ?_)
  case c2 => unfold maxLen; omega
  case c3 => omega
  case c4 => exact hb3.size
  intro v1 w3 hown1 hg1 _
  have hown1' : w3.ownsRow w.heap.size 5 1 v1 (n + V.length + s.size) (U (l ++ V ++ sB s)) := by
    rw [sB_cells] at hown1; simpa using hown1
  obtain ⟨A3, c3, hv, ho3, hb4⟩ := own_of ho2 hb3 hb3.size hown1' hg1
  rw [hv]
  clear hv hown1 hown1' hg1
  go_wp2_with fail
  go_ret
  exact ⟨A3, c3, rfl, ho3, hb4⟩

/-- Where a slice of bytes that is not empty lies. -/
theorem place_of {w : World} {B n : Nat} {A : Option Addr} {l : List Int} (h : Reads w B 1 A n (U l)) (hn : 0 < n) : ∃ b off, A = some ⟨b, off, none⟩ ∧ b < B ∧ l.length = n ∧ ∀ i, i < n → w.cell? ⟨b, off + i, none⟩ = some (.int .u8 (l.getD i 0)) := by
  obtain ⟨⟨b, off, spot⟩, hA, hb, hc⟩ := h.2 hn
  have hl : l.length = n := by have := h.1; simpa using this
  have h0 := hc 0 (.int .u8 (l.getD 0 0)) (by simp [List.getD_eq_getElem?_getD, List.getElem?_eq_getElem (show 0 < l.length by omega)])
  have hs : spot = none := by simpa [Addr.add] using World.cell?_spot h0
  subst hs
  refine ⟨b, off, hA, hb, hl, fun i hi => ?_⟩
  have := hc i (.int .u8 (l.getD i 0)) (by simp [List.getD_eq_getElem?_getD, List.getElem?_eq_getElem (show i < l.length by omega)])
  rwa [Addr.add_lit] at this

/-- The loop's relation of Same: what has been seen is the same. -/
structure Alike (la lb : List Int) (k : Nat) : Prop where
  all : ∀ i, i < k → la.getD i 0 = lb.getD i 0
theorem list_eq {la lb : List Int} (h : la.length = lb.length) (h' : Alike la lb la.length) : la = lb := by
  refine List.ext_getElem h fun i h1 h2 => ?_
  have := h'.all i h1
  simpa [List.getD_eq_getElem?_getD, List.getElem?_eq_getElem h1, List.getElem?_eq_getElem h2] using this

theorem same_any (A A' : Option Addr) (n m c c' : Nat) (la lb : List Int) (w : World) (B B' : Nat) (ha : Reads w B 1 A n (U la)) (hb : Reads w B' 1 A' m (U lb)) (hn : n ≤ 1099511627776) (hm : m ≤ 1099511627776) :
    Calls Tryd.prog 14 #[.slice A n c, .slice A' m c'] w fun e w' => e = .returned (.bool (decide (la = lb))) ∧ Below w.heap.size w w' := by
  have hla : la.length = n := by have := ha.1; simpa using this
  have hlb : lb.length = m := by have := hb.1; simpa using this
  by_cases hnm : n = m
  · subst hnm
    rcases Nat.eq_zero_or_pos n with h0 | h0
    · subst h0
      obtain rfl := List.eq_nil_of_length_eq_zero hla
      obtain rfl := List.eq_nil_of_length_eq_zero hlb
      go_enter Tryd.func14, Tryd.ntmps14
      go_wp2_with fail
      go_loop [5] (fun i => i = .int .i64 0) (fun _ => 0)
      case atStart => rfl
      case round =>
        obtain rfl := hrel
        go_wp2_with fail
        go_ret
        exact ⟨rfl, Below.refl _ _⟩
    · obtain ⟨b, off, rfl, _, _, hc⟩ := place_of ha h0
      obtain ⟨b', off', rfl, _, _, hc'⟩ := place_of hb h0
      have HC := Lib.hid hc
      have HC' := Lib.hid hc'
      have HL := Lib.hid hla
      have HL' := Lib.hid hlb
      clear hc hc' hla hlb ha hb
      go_enter Tryd.func14, Tryd.ntmps14
      go_wp2_with fail
      go_loopw [5] (fun i wr => ∃ k : Nat, k ≤ n ∧ i = .int .i64 k ∧ Alike la lb k ∧ Below w.heap.size w wr) (fun i _ => n - (intOf i).toNat)
      case atStart => exact ⟨0, by omega, rfl, ⟨fun i hi => by omega⟩, Below.refl _ _⟩
      case round =>
        obtain ⟨k, hk, rfl, hal, hbel⟩ := hrel
        by_cases hlt : k < n
        · have h1 := cell_later hbel (HC.out k hlt)
          have h2 := cell_later hbel (HC'.out k hlt)
          obtain ⟨x, hx⟩ : ∃ x, Hid (la.getD k 0 = x) := ⟨_, rfl⟩
          obtain ⟨y, hy⟩ : ∃ y, Hid (lb.getD k 0 = y) := ⟨_, rfl⟩
          rw [hx.out] at h1
          rw [hy.out] at h2
          have i0 : (0 : Int) ≤ (k : Int) := by omega
          have i1 : (k : Int) < (n : Int) := by omega
          by_cases hxy : x = y
          · have hal' : Alike la lb (k + 1) := ⟨fun i hi => by
              by_cases hik : i < k
              · exact hal.all i hik
              · obtain rfl : i = k := by omega
                rw [hx.out, hy.out, hxy]⟩
            subst hxy
            go_wp2_with fail
            refine wp_region_held_drew (S := (fun w' => Below wr.heap.size wr w' ∧ w'.cell? ⟨b, off + k, none⟩ = some (.int .u8 x) ∧ w'.cell? ⟨b', off' + k, none⟩ = some (.int .u8 x))) (by kernel_rfl) ?_ (fun hHeld => ?_)
            · exact ⟨(Below.refl _ _).drew, h1, h2⟩
            refine takeD (i := 0) (d := some 17) (v := ?_) _ rfl rfl (by kernel_rfl) (by kernel_rfl) (by kernel_rfl) (fun _ _ _ h => h) (by rfl) ?_ (by assumption) ?_
            rotate_left
            · (intro w hSw; (try dsimp only at hSw); go_simp) <;> with_reducible rfl
            try simp only [Act.put, List.setIfInBounds_toArray, List.set_cons_zero, List.set_cons_succ]
            refine takeD (i := 1) (d := some 18) (v := ?_) _ rfl rfl (by kernel_rfl) (by kernel_rfl) (by kernel_rfl) (fun _ _ _ h => h) (by rfl) ?_ (by assumption) ?_
            rotate_left
            · (intro w hSw; (try dsimp only at hSw); go_simp) <;> with_reducible rfl
            try simp only [Act.put, List.setIfInBounds_toArray, List.set_cons_zero, List.set_cons_succ]
            refine takeD (i := 2) (d := some 19) (v := ?_) _ rfl rfl (by kernel_rfl) (by kernel_rfl) (by kernel_rfl) (fun _ _ _ h => h) (by rfl) ?_ (by assumption) ?_
            rotate_left
            · (intro w hSw; (try dsimp only at hSw); go_simp) <;> with_reducible rfl
            try simp only [Act.put, List.setIfInBounds_toArray, List.set_cons_zero, List.set_cons_succ]
            refine takeD (i := 3) (d := some 20) (v := ?_) _ rfl rfl (by kernel_rfl) (by kernel_rfl) (by kernel_rfl) (fun _ _ _ h => h) (by rfl) ?_ (by assumption) ?_
            rotate_left
            · (intro w hSw; (try dsimp only at hSw); go_simp) <;> with_reducible rfl
            try simp only [Act.put, List.setIfInBounds_toArray, List.set_cons_zero, List.set_cons_succ]
            refine takeD (i := 4) (d := some 21) (v := ?_) _ rfl rfl (by kernel_rfl) (by kernel_rfl) (by kernel_rfl) (fun _ _ _ h => h) (by rfl) ?_ (by assumption) ?_
            rotate_left
            · (intro w hSw; (try dsimp only at hSw); go_simp) <;> with_reducible rfl
            try simp only [Act.put, List.setIfInBounds_toArray, List.set_cons_zero, List.set_cons_succ]
            refine takeD (i := 5) (d := some 22) (v := ?_) _ rfl rfl (by kernel_rfl) (by kernel_rfl) (by kernel_rfl) (fun _ _ _ h => h) (by rfl) ?_ (by assumption) ?_
            rotate_left
            · (intro w hSw; (try dsimp only at hSw); go_simp) <;> with_reducible rfl
            try simp only [Act.put, List.setIfInBounds_toArray, List.set_cons_zero, List.set_cons_succ]
            refine takeD (i := 6) (d := some 23) (v := ?_) _ rfl rfl (by kernel_rfl) (by kernel_rfl) (by kernel_rfl) (fun _ _ _ h => h) (by rfl) ?_ (by assumption) ?_
            rotate_left
            · (intro w hSw; (try dsimp only at hSw); go_simp) <;> with_reducible rfl
            try simp only [Act.put, List.setIfInBounds_toArray, List.set_cons_zero, List.set_cons_succ]
            refine takeD (i := 7) (d := some 24) (v := ?_) _ rfl rfl (by kernel_rfl) (by kernel_rfl) (by kernel_rfl) (fun _ _ _ h => h) (by rfl) ?_ (by assumption) ?_
            rotate_left
            · (intro w hSw; (try dsimp only at hSw); go_simp) <;> with_reducible rfl
            try simp only [Act.put, List.setIfInBounds_toArray, List.set_cons_zero, List.set_cons_succ]
            refine takeD (i := 8) (d := some 25) (v := ?_) _ rfl rfl (by kernel_rfl) (by kernel_rfl) (by kernel_rfl) (fun _ _ _ h => h) (by rfl) ?_ (by assumption) ?_
            rotate_left
            · (intro w hSw; (try dsimp only at hSw); go_simp) <;> with_reducible rfl
            try simp only [Act.put, List.setIfInBounds_toArray, List.set_cons_zero, List.set_cons_succ]
            refine wpAnyH_done (by kernel_rfl) ?_ _
            have bel2 := hbel.trans (hHeld.1.mono hbel.size)
            go_wp2_with fail
            go_roundw
            case rel => first | exact ⟨k + 1, by omega, by go_num, hal', bel2⟩ | ((repeat apply Exists.intro); exact ⟨⟨k + 1, by omega, by go_num, hal', bel2⟩, rfl⟩)
            case measure => simp [intOf]; omega
          · have hne : (x == y) = false := by simp [hxy]
            have hne' : (x != y) = true := by simp [hxy]
            have hd : decide (la = lb) = false := by
              simp only [decide_eq_false_iff_not]
              intro he
              subst he
              exact hxy (hx.out.symm.trans hy.out)
            have HD := Lib.hid hd
            clear hd hxy
            go_wp2_with fail
            refine wp_region_held_drew (S := (fun w' => Below wr.heap.size wr w' ∧ w'.cell? ⟨b, off + k, none⟩ = some (.int .u8 x) ∧ w'.cell? ⟨b', off' + k, none⟩ = some (.int .u8 y))) (by kernel_rfl) ?_ (fun hHeld => ?_)
            · exact ⟨(Below.refl _ _).drew, h1, h2⟩
            refine takeD (i := 0) (d := some 17) (v := ?_) _ rfl rfl (by kernel_rfl) (by kernel_rfl) (by kernel_rfl) (fun _ _ _ h => h) (by rfl) ?_ (by assumption) ?_
            rotate_left
            · (intro w hSw; (try dsimp only at hSw); go_simp) <;> with_reducible rfl
            try simp only [Act.put, List.setIfInBounds_toArray, List.set_cons_zero, List.set_cons_succ]
            refine takeD (i := 1) (d := some 18) (v := ?_) _ rfl rfl (by kernel_rfl) (by kernel_rfl) (by kernel_rfl) (fun _ _ _ h => h) (by rfl) ?_ (by assumption) ?_
            rotate_left
            · (intro w hSw; (try dsimp only at hSw); go_simp) <;> with_reducible rfl
            try simp only [Act.put, List.setIfInBounds_toArray, List.set_cons_zero, List.set_cons_succ]
            refine takeD (i := 2) (d := some 19) (v := ?_) _ rfl rfl (by kernel_rfl) (by kernel_rfl) (by kernel_rfl) (fun _ _ _ h => h) (by rfl) ?_ (by assumption) ?_
            rotate_left
            · (intro w hSw; (try dsimp only at hSw); go_simp) <;> with_reducible rfl
            try simp only [Act.put, List.setIfInBounds_toArray, List.set_cons_zero, List.set_cons_succ]
            refine takeD (i := 3) (d := some 20) (v := ?_) _ rfl rfl (by kernel_rfl) (by kernel_rfl) (by kernel_rfl) (fun _ _ _ h => h) (by rfl) ?_ (by assumption) ?_
            rotate_left
            · (intro w hSw; (try dsimp only at hSw); go_simp) <;> with_reducible rfl
            try simp only [Act.put, List.setIfInBounds_toArray, List.set_cons_zero, List.set_cons_succ]
            refine takeD (i := 4) (d := some 21) (v := ?_) _ rfl rfl (by kernel_rfl) (by kernel_rfl) (by kernel_rfl) (fun _ _ _ h => h) (by rfl) ?_ (by assumption) ?_
            rotate_left
            · (intro w hSw; (try dsimp only at hSw); go_simp) <;> with_reducible rfl
            try simp only [Act.put, List.setIfInBounds_toArray, List.set_cons_zero, List.set_cons_succ]
            refine takeD (i := 5) (d := some 22) (v := ?_) _ rfl rfl (by kernel_rfl) (by kernel_rfl) (by kernel_rfl) (fun _ _ _ h => h) (by rfl) ?_ (by assumption) ?_
            rotate_left
            · (intro w hSw; (try dsimp only at hSw); go_simp) <;> with_reducible rfl
            try simp only [Act.put, List.setIfInBounds_toArray, List.set_cons_zero, List.set_cons_succ]
            refine takeD (i := 6) (d := some 23) (v := ?_) _ rfl rfl (by kernel_rfl) (by kernel_rfl) (by kernel_rfl) (fun _ _ _ h => h) (by rfl) ?_ (by assumption) ?_
            rotate_left
            · (intro w hSw; (try dsimp only at hSw); go_simp) <;> with_reducible rfl
            try simp only [Act.put, List.setIfInBounds_toArray, List.set_cons_zero, List.set_cons_succ]
            refine takeD (i := 7) (d := some 24) (v := ?_) _ rfl rfl (by kernel_rfl) (by kernel_rfl) (by kernel_rfl) (fun _ _ _ h => h) (by rfl) ?_ (by assumption) ?_
            rotate_left
            · (intro w hSw; (try dsimp only at hSw); go_simp) <;> with_reducible rfl
            try simp only [Act.put, List.setIfInBounds_toArray, List.set_cons_zero, List.set_cons_succ]
            refine takeD (i := 8) (d := some 25) (v := ?_) _ rfl rfl (by kernel_rfl) (by kernel_rfl) (by kernel_rfl) (fun _ _ _ h => h) (by rfl) ?_ (by assumption) ?_
            rotate_left
            · (intro w hSw; (try dsimp only at hSw); go_simp) <;> with_reducible rfl
            try simp only [Act.put, List.setIfInBounds_toArray, List.set_cons_zero, List.set_cons_succ]
            refine wpAnyH_done (by kernel_rfl) ?_ _
            have bel2 := hbel.trans (hHeld.1.mono hbel.size)
            go_wp2_with fail
            go_ret
            exact ⟨bool_ret HD.out.symm, bel2⟩
        · obtain rfl : k = n := by omega
          have hd : Hid (decide (la = lb) = true) := by
            have : la = lb := list_eq (by rw [HL.out, HL'.out]) (by rw [HL.out]; exact hal)
            simp [Hid, this]
          go_wp2_with fail
          go_ret
          exact ⟨bool_ret hd.out.symm, hbel⟩
  · have hd : Hid (decide (la = lb) = false) := by
      simp only [Hid, decide_eq_false_iff_not]
      intro he
      subst he
      omega
    have hne : ((n : Int) == (m : Int)) = false := by simp; omega
    have hne' : ((n : Int) != (m : Int)) = true := by simp; omega
    clear ha hb hla hlb
    go_enter Tryd.func14, Tryd.ntmps14
    go_wp2_with fail
    go_ret
    exact ⟨bool_ret hd.out.symm, Below.refl _ _⟩

/-- The table. -/
def stepsL : List Int := [0, 79764919, 159529838, 222504665, 319059676, 398814059, 445009330, 507990021, 638119352, 583659535, 797628118, 726387553, 890018660, 835552979, 1015980042, 944750013]
/-- The table lies where the program's text lays it. -/
def Laid (w : World) : Prop := 0 < w.heap.size ∧ ∀ i, i < 16 → w.cell? ⟨0, i, none⟩ = some (.int .u32 (stepsL.getD i 0))
theorem Laid.later {w w' : World} (h : Laid w) (hb : Below w.heap.size w w') : Laid w' := ⟨Nat.lt_of_lt_of_le h.1 hb.size, fun i hi => cell_later hb (h.2 i hi)⟩

/-- Four bits of the sum. -/
def nib (r : Int) : Int := bits BinOp.xor IntKind.u32 (r * 16 % 4294967296) (stepsL.getD (r / 268435456).toNat 0)
def crcB (x y : Int) : Int := nib (nib (bits BinOp.xor IntKind.u32 x (y * 16777216)))
def crcL (l : List Int) : Int := l.foldl crcB 4294967295
theorem crc_next (l : List Int) (k : Nat) (h : k < l.length) : crcL (l.take (k + 1)) = crcB (crcL (l.take k)) (l.getD k 0) := by
  unfold crcL
  rw [List.take_succ_eq_append_getElem h, List.foldl_append]
  simp only [List.foldl_cons, List.foldl_nil, List.getD_eq_getElem?_getD, List.getElem?_eq_getElem h, Option.getD_some]
theorem xor_bd (a b : Int) : 0 ≤ bits BinOp.xor IntKind.u32 a b ∧ bits BinOp.xor IntKind.u32 a b ≤ 4294967295 := bounds_u32 (wf_bits _ _ _ _)
def Bytes (l : List Int) : Prop := ∀ i, i < l.length → 0 ≤ l.getD i 0 ∧ l.getD i 0 ≤ 255

theorem sum_any (A : Option Addr) (n c : Nat) (l : List Int) (w : World) (B : Nat) (h : Reads w B 1 A n (U l)) (hl : Laid w) (hn : 0 < n) (hy : Bytes l) (hn' : n ≤ 1099511627776) :
    Calls Tryd.prog 31 #[.slice A n c] w fun e w' => e = .returned (.int .u32 (bits BinOp.xor IntKind.u32 4294967295 (crcL l))) ∧ Below w.heap.size w w' := by
  obtain ⟨b, off, rfl, _, hlen, hc⟩ := place_of h hn
  have HC := Lib.hid hc
  have HT := Lib.hid hl.2
  have HY := Lib.hid hy
  have HL := Lib.hid hlen
  clear hc hl h hy hlen
  go_enter Tryd.func31, Tryd.ntmps31
  go_wp2_with fail
  go_loop [3, 8] (fun r i => ∃ (k : Nat) (x : Int), k ≤ n ∧ i = .int .i64 k ∧ r = .int .u32 x ∧ 0 ≤ x ∧ x ≤ 4294967295 ∧ Hid (x = crcL (l.take k))) (fun _ i => n - (intOf i).toNat)
  case atStart => exact ⟨0, 4294967295, by omega, rfl, rfl, by omega, by omega, rfl⟩
  case round =>
    obtain ⟨k, x, hk, rfl, rfl, x0, x1, hx⟩ := hrel
    by_cases hlt : k < n
    · have h1 := HC.out k hlt
      have HN := Lib.hid (crc_next l k (by rw [HL.out]; exact hlt))
      have hyy := HY.out k (by rw [HL.out]; exact hlt)
      obtain ⟨y, hy⟩ : ∃ y, Hid (l.getD k 0 = y) := ⟨_, rfl⟩
      rw [hy.out] at h1 hyy
      obtain ⟨y0, y1⟩ := hyy
      have v1 := xor_bd x (y * 16777216)
      obtain ⟨r1, hr1⟩ : ∃ r1, bits BinOp.xor IntKind.u32 x (y * 16777216) = r1 := ⟨_, rfl⟩
      rw [hr1] at v1
      obtain ⟨p0, p1⟩ := v1
      have i0 : 0 ≤ r1 / 268435456 := by omega
      have i1 : r1 / 268435456 < 16 := by omega
      have t1 := HT.out (r1 / 268435456).toNat (by omega)
      obtain ⟨T1, hT1⟩ : ∃ T1, Hid (stepsL.getD (r1 / 268435456).toNat 0 = T1) := ⟨_, rfl⟩
      rw [hT1.out] at t1
      have v2 := xor_bd (r1 * 16 % 4294967296) T1
      obtain ⟨r2, hr2⟩ : ∃ r2, bits BinOp.xor IntKind.u32 (r1 * 16 % 4294967296) T1 = r2 := ⟨_, rfl⟩
      rw [hr2] at v2
      obtain ⟨q0, q1⟩ := v2
      have j0 : 0 ≤ r2 / 268435456 := by omega
      have j1 : r2 / 268435456 < 16 := by omega
      have t2 := HT.out (r2 / 268435456).toNat (by omega)
      obtain ⟨T2, hT2⟩ : ∃ T2, Hid (stepsL.getD (r2 / 268435456).toNat 0 = T2) := ⟨_, rfl⟩
      rw [hT2.out] at t2
      have v3 := xor_bd (r2 * 16 % 4294967296) T2
      obtain ⟨r3, hr3⟩ : ∃ r3, bits BinOp.xor IntKind.u32 (r2 * 16 % 4294967296) T2 = r3 := ⟨_, rfl⟩
      rw [hr3] at v3
      obtain ⟨s0, s1⟩ := v3
      have hF : Hid (r3 = crcL (l.take (k + 1))) := by
        unfold Hid
        rw [HN.out, ← hx.out, hy.out]
        unfold crcB
        rw [hr1]
        have e1 : nib r1 = r2 := by unfold nib; rw [hT1.out]; exact hr2
        rw [e1]
        unfold nib
        rw [hT2.out]; exact hr3.symm
      go_wp2_with fail
      go_round
      case rel => first | exact ⟨k + 1, r3, by omega, by go_num, rfl, s0, s1, hF⟩ | ((repeat apply Exists.intro); exact ⟨⟨k + 1, r3, by omega, by go_num, rfl, s0, s1, hF⟩, rfl⟩)
      case measure => simp [intOf]; omega
    · obtain rfl : k = n := by omega
      have hF : Hid (x = crcL l) := by have := hx.out; rwa [List.take_of_length_le (by rw [HL.out]; exact Nat.le_refl _)] at this
      go_wp2_with fail
      go_ret
      exact ⟨int_ret (by rw [← hF.out]; rfl), Below.refl _ _⟩
theorem sum_nil (A : Option Addr) (c : Nat) (w : World) :
    Calls Tryd.prog 31 #[.slice A 0 c] w fun e w' => e = .returned (.int .u32 0) ∧ Below w.heap.size w w' := by
  go_enter Tryd.func31, Tryd.ntmps31
  go_wp2_with fail
  go_loop [3, 8] (fun r i => i = .int .i64 0 ∧ r = .int .u32 4294967295) (fun _ _ => 0)
  case atStart => exact ⟨rfl, rfl⟩
  case round =>
    obtain ⟨rfl, rfl⟩ := hrel
    go_wp2_with fail
    go_ret
    exact ⟨rfl, Below.refl _ _⟩
theorem crc_check : bits BinOp.xor IntKind.u32 4294967295 (crcL [49, 50, 51, 52, 53, 54, 55, 56, 57]) = 4236843288 := by decide +kernel
theorem var_300 : varB 300 = [130, 44] := by decide +kernel
theorem var_2 : varB 2 = [2] := by decide +kernel
theorem word_258 : wordB 258 = [0, 0, 1, 2] := by decide +kernel

theorem nine_bytes : Bytes [49, 50, 51, 52, 53, 54, 55, 56, 57] := by
  intro i hi
  simp at hi
  match i, hi with
  | 0, _ => decide
  | 1, _ => decide
  | 2, _ => decide
  | 3, _ => decide
  | 4, _ => decide
  | 5, _ => decide
  | 6, _ => decide
  | 7, _ => decide
  | 8, _ => decide

theorem reads_mark (w : World) (vs : List Value) (e : TypeId) (fr : Nat × Nat) : Reads (w.alloc (.cells vs.toArray e fr)) (w.heap.size + 1) 1 (some ⟨w.heap.size, 0, none⟩) vs.length vs :=
  ⟨by simp, fun _ => ⟨_, rfl, by simp, fun j u hu => by
    rw [Addr.add_lit, Nat.zero_add, World.cell?_alloc_mark]; simpa using hu⟩⟩

set_option maxHeartbeats 1000000 in
theorem known_any (w : World) (hl : Laid w) : Calls Tryd.prog 13 #[] w fun e w' => e = .returned (.bool true) ∧ Below w.heap.size w w' := by
  have HL := Lib.hid hl
  clear hl
  have P1 := putVar_any none 0 0 [] 300 w Reads.none_ (by omega) (by omega)
  rw [var_300] at P1
  have P1 := Lib.hid P1
  have P2 : Hid (∀ (A : Option Addr) (c : Nat) (W : World), Reads W W.heap.size 1 A 1 (U [9]) → Calls Tryd.prog 11 #[.slice A 1 c, .string { data := #[97, 98] }] W (Own W.heap.size W 4 [9, 2, 97, 98])) := fun A c W h => by
    have := putText_any A 1 c [9] { data := #[97, 98] } W h (by omega) (by decide)
    have e1 : varB (ByteArray.size { data := #[97, 98] }) = [2] := var_2
    have e2 : sB { data := #[97, 98] } = [97, 98] := by decide
    rw [e1, e2] at this
    exact this
  have P3 : Hid (∀ (W : World), Calls Tryd.prog 12 #[.slice none 0 0, .int .u32 258] W (Own W.heap.size W 4 [0, 0, 1, 2])) := fun W => by
    have := putWord_any none 0 0 [] 258 W Reads.none_ (by omega) (by omega) (by omega)
    rw [word_258] at this
    exact this
  have P4 : Hid (∀ (A : Option Addr) (c : Nat) (W : World) (B : Nat), Laid W → Reads W B 1 A 9 (U [49, 50, 51, 52, 53, 54, 55, 56, 57]) → Calls Tryd.prog 31 #[.slice A 9 c] W fun e w' => e = .returned (.int .u32 4236843288) ∧ Below W.heap.size W w') := fun A c W B h1 h2 => by
    have := sum_any A 9 c [49, 50, 51, 52, 53, 54, 55, 56, 57] W B h2 h1 (by omega) nine_bytes (by omega)
    rw [crc_check] at this
    exact this
  have S : Hid (∀ (A A' : Option Addr) (n c c' : Nat) (l : List Int) (W : World) (B B' : Nat), Reads W B 1 A n (U l) → Reads W B' 1 A' n (U l) → n ≤ 1099511627776 → Calls Tryd.prog 14 #[.slice A n c, .slice A' n c'] W fun e w' => e = .returned (.bool true) ∧ Below W.heap.size W w') := fun A A' n c c' l W B B' h1 h2 h3 => by
    have := same_any A A' n n c c' l l W B B' h1 h2 h3 h3
    simpa using this
  have kc := fun (w : World) (C : Array Value) (n c : Nat) => Lib.run_convert_bytes_const (P := Tryd.prog) w 22 5 C n c Tryd.underlying22 Tryd.underlying5
  go_enter Tryd.func13, Tryd.ntmps13
  go_wp2_with fail
  refine P1.out.mono ?_
  rintro e w1 ⟨A1, c1, rfl, o1, b1⟩
  go_wp2_with fail
  refine (S.out A1 _ 2 c1 _ [130, 44] _ _ _ (Reads.of_own (o1.alloc _)) (reads_new w1 (U [130, 44]) 5) (by omega)).mono ?_
  rintro e w2 ⟨rfl, hb⟩
  have b2 : Below w.heap.size w w2 := (b1.alloc b1.size _).trans (hb.mono (by have := b1.size; simp; omega))
  clear hb b1 o1
  go_wp2_with fail
  refine (P2.out _ _ _ ((reads_new w2 (U [9]) 5).more (by simp))).mono ?_
  rintro e w3 ⟨A3, c3, rfl, o3, hb⟩
  have b3 : Below w.heap.size w w3 := (b2.alloc b2.size _).trans (hb.mono (by have := b2.size; simp; omega))
  clear hb b2
  go_wp2_with fail
  refine (S.out A3 _ 4 c3 _ [9, 2, 97, 98] _ _ _ (Reads.of_own (o3.alloc _)) (reads_new w3 (U [9, 2, 97, 98]) 5) (by omega)).mono ?_
  rintro e w4 ⟨rfl, hb⟩
  have b4 : Below w.heap.size w w4 := (b3.alloc b3.size _).trans (hb.mono (by have := b3.size; simp; omega))
  clear hb b3 o3
  go_wp2_with fail
  refine (P3.out _).mono ?_
  rintro e w5 ⟨A5, c5, rfl, o5, hb⟩
  have b5 : Below w.heap.size w w5 := b4.trans (hb.mono b4.size)
  clear hb b4
  go_wp2_with fail
  refine (S.out A5 _ 4 c5 _ [0, 0, 1, 2] _ _ _ (Reads.of_own (o5.alloc _)) (reads_new w5 (U [0, 0, 1, 2]) 5) (by omega)).mono ?_
  rintro e w6 ⟨rfl, hb⟩
  have b6 : Below w.heap.size w w6 := (b5.alloc b5.size _).trans (hb.mono (by have := b5.size; simp; omega))
  clear hb b5 o5
  go_wp2_with fail
  refine (P4.out _ _ _ _ (HL.out.later (b6.alloc b6.size _)) (reads_mark w6 (U [49, 50, 51, 52, 53, 54, 55, 56, 57]) 5 _)).mono ?_
  rintro e w7 ⟨rfl, hb⟩
  have b7 : Below w.heap.size w w7 := (b6.alloc b6.size _).trans (hb.mono (by have := b6.size; simp; omega))
  clear hb b6
  go_wp2_with fail
  refine (sum_nil none 0 _).mono ?_
  rintro e w8 ⟨rfl, hb⟩
  have b8 : Below w.heap.size w w8 := b7.trans (hb.mono b7.size)
  go_wp2_with fail
  go_ret
  exact ⟨rfl, b8⟩
end Go.Proofs.YthcegmijphbhgaaDoor
