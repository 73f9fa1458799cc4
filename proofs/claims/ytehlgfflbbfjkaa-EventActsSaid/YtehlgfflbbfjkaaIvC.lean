/-
  Lists of numbers: without one of them. Each statement bears its own conditions.
-/
import Derived.Test.YtehlgfflbbfjkaaIvB
namespace Go.Proofs.Ytehlgfflbbfjkaa.E
open Go.RowKit Go.Proofs.Ytehlgfflbbfjkaa.I
set_option linter.unusedVariables false
set_option linter.unusedSimpArgs false
theorem set_at {w : World} {g : Nat} {C : Array Value} {t : TypeId} {fr : Nat × Nat} (h : w.heap[g]? = some (.cells C t fr)) (o : Nat) (v : Value) : (w.setCell ⟨g, o, none⟩ v).heap[g]? = some (.cells (C.setIfInBounds o v) t fr) := by
  have hl : g < w.heap.size := by
    by_cases hlt : g < w.heap.size
    · exact hlt
    · rw [Array.getElem?_eq_none (by omega)] at h; cases h
  simp [World.setCell, h, Array.getElem?_modify]
theorem outI_next {L : List Int} {x a : Int} {j : Nat} (h : j < L.length) (ha : L.getD j 0 = a) : outI (L.take (j + 1)) x = outI (L.take j) x ++ if a = x then [] else [a] := by
  rw [take_getD h, ha, outI_app]
  congr 1
  unfold outI
  by_cases e : a = x <;> simp [e]
theorem outI_le (L : List Int) (x : Int) (j : Nat) : (outI (L.take j) x).length ≤ j := Nat.le_trans (outI_len _ _) (by rw [List.length_take]; omega)
theorem one_row {w : World} (u : Value) (t : TypeId) : Reads (w.alloc (.cells #[u] t)) (w.heap.size + 1) 1 (some ⟨w.heap.size, 0, none⟩) 1 [u] := ⟨rfl, fun _ => ⟨_, rfl, by simp, fun j u' hu => by
  match j, hu with
  | 0, hu => simp at hu; subst hu; rw [Addr.add_lit]; simp
  | j + 1, hu => simp at hu⟩⟩
structure WRel (L : List Int) (x : Int) (n : Nat) (w : World) (ov iv : Value) (wr : World) : Prop where
  ex : ∃ (j m c : Nat) (A : Option Addr), j ≤ n ∧ iv = .int .i64 (j : Int) ∧ ov = .slice A m c ∧ m = (outI (L.take j) x).length ∧ wr.ownsRow w.heap.size 3 1 (.slice A m c) m (C (outI (L.take j) x)) ∧ Below w.heap.size w wr
set_option maxRecDepth 100000 in
set_option maxHeartbeats 1000000 in
theorem without_any (v : Value) (rb : Nat) (L : List Int) (x : Int) (w : World) (hr : RowV w v rb L) (hL : L.length ≤ 1000) :
    Calls Try.prog 18 #[v, .int .i64 x] w fun e w' => ∃ A c, e = .returned (.slice A (outI L x).length c) ∧ w'.ownsRow w.heap.size 3 1 (.slice A (outI L x).length c) (outI L x).length (C (outI L x)) ∧ Below w.heap.size w w' := by
  obtain ⟨A, c, rfl, hc⟩ := hr.slice
  obtain ⟨i0, hi, hz0, hz1, hz2⟩ := info_of int_info
  obtain ⟨n, hn⟩ : ∃ n, L.length = n := ⟨_, rfl⟩
  have HR := Lib.hid hr
  have HN := Lib.hid hn
  have HL : Hid (n ≤ 1000) := by unfold Hid; omega
  rw [hn] at HR hc ⊢
  clear hr hL hn
  go_enter Try.func18, Try.ntmps18
  go_wp2_with fail
  go_loopw [5, 6] (fun ov iv wr => WRel L x n w ov iv wr) (fun _ i _ => 1001 - (intOf i).toNat)
  case atStart => exact ⟨⟨0, 0, 0, none, Nat.zero_le _, rfl, rfl, by simp [outI], by simpa [outI, C] using World.ownsRow_nil w w.heap.size 3 1, Below.refl _ _⟩⟩
  case round =>
    obtain ⟨⟨j, m, c', A', hj, rfl, rfl, hm, ho, hb⟩⟩ := hrel
    have HJ := Lib.hid hj
    have HM := Lib.hid hm
    have HO := Lib.hid ho
    have HB := Lib.hid hb
    clear hj hm ho hb
    by_cases hlt : j < n
    · obtain ⟨⟨c1, hv⟩, d0, hrb⟩ := RowV.cells HR.out j (by rw [HN.out]; exact hlt)
      injection hv with hv hq hcc
      subst hv hcc
      clear hq
      obtain ⟨a, ha⟩ : ∃ a, Hid (L.getD j 0 = a) := ⟨_, rfl⟩
      rw [ha.out] at d0
      have d1 : wr.cell? ⟨rb, j, none⟩ = some (.int .i64 a) := cell_later HB.out d0
      have hjI : (j : Int) < (n : Int) := by omega
      have hj2 : (j : Int) < 1000 := by have := HL.out; omega
      have HX : Hid (j < n) := hlt
      have HNX : Hid (outI (L.take (j + 1)) x = outI (L.take j) x ++ if a = x then [] else [a]) := outI_next (by rw [HN.out]; exact hlt) ha.out
      have HM2 : Hid (m ≤ 1000) := by have h1 := outI_le L x j; have h2 := HM.out; have h3 := HL.out; unfold Hid; omega
      clear hlt d0 hrb
      by_cases hxe : a = x
      · have hxB : (a != x) = false := by simp [hxe]
        have HNX2 : Hid (outI (L.take (j + 1)) x = outI (L.take j) x) := by have := HNX.out; rw [if_pos hxe, List.append_nil] at this; exact this
        have hxB2 : (a == x) = true := by simp [hxe]
        subst hxe
        go_wp2_with fail
        go_roundw
        case rel =>
          have Q : WRel L a n w (.slice A' m c') (.int .i64 ((j : Int) + 1)) wr := ⟨⟨j + 1, m, c', A', HX.out, by go_num, rfl, by rw [HNX2.out]; exact HM.out, by rw [HNX2.out]; exact HO.out, HB.out⟩⟩
          first | exact Q | ((repeat apply Exists.intro); exact ⟨Q, rfl⟩)
        case measure => have := HX.out; have := HL.out; simp [intOf]; omega
      · have hxB : (a != x) = true := by simp [hxe]
        have hxB2 : (a == x) = false := by simp [hxe]
        have HNX2 : Hid (outI (L.take (j + 1)) x = outI (L.take j) x ++ [a]) := by have := HNX.out; rw [if_neg hxe] at this; exact this
        have HO1 : Hid ((wr.alloc (.cells #[.int .i64 a] 3)).ownsRow w.heap.size 3 1 (.slice A' m c') m (C (outI (L.take j) x))) := own_below HO.out ((Below.refl _ _).alloc (Nat.le_refl _) _)
        have RD := Lib.hid (one_row (w := wr) (.int .i64 a) 3)
        go_wp2_with (at_builtin; refine wpList_append_any _ rfl _ _ 26 rfl w.heap.size 3 i0 (.int .i64 0) 1 8 Try.underlying26 hi hz0 hz1 hz2 rfl (by decide) _ _ _ rfl HO1.out (wr.heap.size + 1) (some ⟨wr.heap.size, 0, none⟩) 1 1 [.int .i64 a] rfl RD.out ?c2 ?c3 ?c4 ?c5 ?_)
        case c2 => intro u hu; simp at hu; subst hu; rfl
        case c3 => have := HM2.out; unfold maxLen; omega
        case c4 => have := HM2.out; omega
        case c5 => have := HB.out.size; simp; omega
        intro v' w2 hown hgrow hblk
        obtain ⟨A2, c2, rfl⟩ := slice_form hown
        have HO2 : Hid (w2.ownsRow w.heap.size 3 1 (.slice A2 (m + 1) c2) (m + 1) (C (outI (L.take (j + 1)) x))) := by
          unfold Hid
          rw [HNX2.out, C_app]; exact hown
        have HB2 : Hid (Below w.heap.size w w2) := by
          have h1 : Below w.heap.size w (wr.alloc (.cells #[.int .i64 a] 3)) := HB.out.alloc HB.out.size _
          exact h1.grown hgrow (by have := HB.out.size; simp; omega) (fun k hk => (HO1.out.lt k hk).1)
        clear hown hgrow hblk d1
        go_wp2_with fail
        go_roundw
        case rel =>
          have Q : WRel L x n w (.slice A2 (m + 1) c2) (.int .i64 ((j : Int) + 1)) w2 := ⟨⟨j + 1, m + 1, c2, A2, HX.out, by go_num, rfl, by rw [HNX2.out, List.length_append, HM.out]; rfl, HO2.out, HB2.out⟩⟩
          first | exact Q | ((repeat apply Exists.intro); exact ⟨Q, rfl⟩)
        case measure => have := HX.out; have := HL.out; simp [intOf]; omega
    · have hjI : ¬ (j : Int) < (n : Int) := by omega
      have HE : Hid (outI (L.take j) x = outI L x) := by
        unfold Hid
        rw [List.take_of_length_le (by rw [HN.out]; omega)]
      clear hlt
      go_wp2_with fail
      go_ret
      have hm := HM.out
      rw [HE.out] at hm
      subst hm
      exact ⟨_, _, rfl, by rw [← HE.out]; rw [HE.out]; have := HO.out; rw [HE.out] at this; exact this, HB.out⟩
/-- Drop's closure: is it that one? -/
def cloV (pb : Nat) : Value := .func (.func 27) #[] #[.pointer (some ⟨pb, 0, none⟩)]
theorem clo_any (a x : Int) (pb : Nat) (w : World) (hp : w.cell? ⟨pb, 0, none⟩ = some (.int .i64 x)) :
    Calls Try.prog 27 #[.int .i64 a, .pointer (some ⟨pb, 0, none⟩)] w fun e w' => e = .returned (.bool (a == x)) ∧ w' = w := by
  go_enter Try.func27, Try.ntmps27
  go_wp2_with fail
  go_ret
  exact ⟨rfl, rfl⟩
structure IFRel (L : List Int) (x : Int) (n : Nat) (w : World) (iv : Value) (wr : World) : Prop where
  ex : ∃ j : Nat, j ≤ n ∧ iv = .int .i64 (j : Int) ∧ x ∉ L.take j ∧ wr = w
set_option maxRecDepth 100000 in
set_option maxHeartbeats 1000000 in
theorem indexf_any (v : Value) (rb pb : Nat) (L : List Int) (x : Int) (w : World) (hr : RowV w v rb L) (hL : L.length ≤ 1000) (hp : w.cell? ⟨pb, 0, none⟩ = some (.int .i64 x)) :
    Calls Try.prog 30 #[v, cloV pb] w fun e w' => ((∃ k : Nat, k < L.length ∧ L.getD k 0 = x ∧ x ∉ L.take k ∧ e = .returned (.int .i64 (k : Int))) ∨ (x ∉ L ∧ e = .returned (.int .i64 (-1)))) ∧ w' = w := by
  obtain ⟨A, c, rfl, hc⟩ := hr.slice
  obtain ⟨n, hn⟩ : ∃ n, L.length = n := ⟨_, rfl⟩
  have HR := Lib.hid hr
  have HN := Lib.hid hn
  have HL : Hid (n ≤ 1000) := by unfold Hid; omega
  have HP := Lib.hid hp
  rw [hn] at HR hc ⊢
  clear hr hL hn hp
  unfold cloV
  go_enter Try.func30, Try.ntmps30
  go_wp2_with fail
  go_loopw [8] (fun i wr => IFRel L x n w i wr) (fun i _ => 1001 - (intOf i).toNat)
  case atStart => exact ⟨⟨0, Nat.zero_le _, rfl, by simp, rfl⟩⟩
  case round =>
    obtain ⟨⟨j, hj, rfl, hno, rfl⟩⟩ := hrel
    have HJ := Lib.hid hj
    have HNO := Lib.hid hno
    clear hj hno
    by_cases hlt : j < n
    · obtain ⟨⟨c1, hv⟩, d0, _⟩ := RowV.cells HR.out j (by rw [HN.out]; exact hlt)
      injection hv with hv hq hcc
      subst hv hcc
      clear hq
      obtain ⟨a, ha⟩ : ∃ a, Hid (L.getD j 0 = a) := ⟨_, rfl⟩
      rw [ha.out] at d0
      have hjI : (j : Int) < (n : Int) := by omega
      have hj2 : (j : Int) < 1000 := by have := HL.out; omega
      have HX : Hid (j < n) := hlt
      clear hlt
      obtain ⟨t, ht⟩ : ∃ t, (a == x) = t := ⟨_, rfl⟩
      have CL : Hid (Calls Try.prog 27 #[.int .i64 a, .pointer (some ⟨pb, 0, none⟩)] wr fun e w' => e = .returned (.bool t) ∧ w' = wr) := by rw [← ht]; exact clo_any a x pb wr HP.out
      cases t with
      | true =>
        have hxe : a = x := by simpa using ht
        have HXE := Lib.hid hxe
        clear hxe ht
        go_wp2_with (go_at_call 27; refine CL.out.mono ?_; rintro _ w1 ⟨rfl, hw⟩; have hw := hw.symm; subst hw)
        go_ret
        exact ⟨.inl ⟨j, HX.out, ha.out.trans HXE.out, HNO.out, rfl⟩, rfl⟩
      | false =>
        have hxe : ¬ a = x := by simpa using ht
        have HNX : Hid (x ∉ L.take (j + 1)) := notin_next (by rw [HN.out]; exact HX.out) HNO.out ha.out hxe
        clear hxe ht
        go_wp2_with (go_at_call 27; refine CL.out.mono ?_; rintro _ w1 ⟨rfl, hw⟩; have hw := hw.symm; subst hw)
        go_roundw
        case rel =>
          have Q : IFRel L x n wr (.int .i64 ((j : Int) + 1)) wr := ⟨⟨j + 1, HX.out, by go_num, HNX.out, rfl⟩⟩
          first | exact Q | ((repeat apply Exists.intro); exact ⟨Q, rfl⟩)
        case measure => have := HX.out; have := HL.out; simp [intOf]; omega
    · have hjI : ¬ (j : Int) < (n : Int) := by omega
      have HF : Hid (x ∉ L) := by
        have := HNO.out
        rwa [List.take_of_length_le (by rw [HN.out]; omega)] at this
      clear hlt
      go_wp2_with fail
      go_ret
      exact ⟨.inr ⟨HF.out, rfl⟩, rfl⟩
end Go.Proofs.Ytehlgfflbbfjkaa.E
