/-
  The reference's Drop, Put and Change. Each statement bears its own conditions.
-/
import Derived.Test.YtbkjcjkbicaibaaRef
namespace Go.Proofs.Ytbkjcjkbicaibaa
open Go.RowKit
set_option linter.unusedVariables false
set_option linter.unusedSimpArgs false
theorem row_newP (B : Nat) (w : World) (hB : B ≤ w.heap.size) : (w.alloc (.cells #[] 49)).ownsRow B 49 2 (.slice (some ⟨w.heap.size, 0, none⟩) 0 0) 0 (P2 []) :=
  ⟨rfl, .inr ⟨w.heap.size, 0, #[], rfl, hB, heap_alloc_new w _, Nat.le_refl _, by unfold maxLen; omega, rfl, rfl⟩⟩
/-- Without an id. -/
def DpR (m : List (Int × Int)) (id : Int) (ok : Bool) (m' : List (Int × Int)) : Prop := (∃ k, k < m.length ∧ (m.getD k (0, 0)).1 = id ∧ ok = true ∧ m' = m.take k ++ m.drop (k + 1)) ∨ ((∀ k, k < m.length → (m.getD k (0, 0)).1 ≠ id) ∧ ok = false ∧ m' = m)
theorem Reads.pre {w : World} {B n c : Nat} {A : Option Addr} {m : List (Int × Int)} (h : Reads w B 2 A n (P2 m)) (hL : m.length = n) {k : Nat} (hk : k ≤ n) : Reads w B 2 A k (P2 (m.take k)) := by
  refine ⟨by rw [P2_len, List.length_take, hL]; omega, fun hk0 => ?_⟩
  obtain ⟨ad, h1, h2, h3⟩ := h.2 (by omega)
  refine ⟨ad, h1, h2, fun j u hu => h3 j u ?_⟩
  rw [← P2_take] at hu
  have h5 : j < k * 2 := by
    have := (List.getElem?_eq_some_iff.1 hu).1
    rw [List.length_take] at this; omega
  rwa [List.getElem?_take_of_lt h5] at hu
set_option maxRecDepth 100000 in
set_option maxHeartbeats 4000000 in
theorem rdrop_any (A : Option Addr) (n c : Nat) (id : Int) (m : List (Int × Int)) (w : World) (h : Reads w w.heap.size 2 A n (P2 m)) (hL : m.length = n) (hn : n ≤ 1000) (hc : n ≤ c) :
    Calls Try.prog 26 #[.slice A n c, .int .i64 id] w fun e w' => ∃ A' n' c' ok m', e = .returned (.tuple #[.slice A' n' c', .bool ok]) ∧ DpR m id ok m' ∧ NR w w' A A' n' c' m' := by
  obtain ⟨i0, hi, hz0, hz1, hz2⟩ := info_of pair_info
  have FD := Lib.hid (rfind_any A n c id m w _ h hL hn)
  have H := Lib.hid h
  have HL := Lib.hid hL
  have HN := Lib.hid hn
  have HC := Lib.hid hc
  clear h hL hn hc
  go_enter Try.func26, Try.ntmps26
  go_wp2_with fail
  refine FD.out.mono ?_
  rintro e w2 ⟨r, rfl, hf, hw⟩
  have hw := hw.symm
  subst hw
  clear FD
  rcases hf with ⟨k, hk, rfl, hid⟩ | ⟨rfl, hno⟩
  · have HK : Hid (k < n) := by unfold Hid; rw [← HL.out]; exact hk
    have HID := Lib.hid hid
    obtain ⟨b, off, rfl, hb, _, _⟩ := place_p H.out (by have := HK.out; omega)
    have hk0 : ¬ (k : Int) < 0 := by omega
    have hkc : (k : Int) ≤ (c : Int) := by have := HK.out; have := HC.out; omega
    have hkn : (k : Int) ≤ (n : Int) := by have := HK.out; omega
    have hk1 : IntKind.i64.wrap ((k : Int) + 1) = (k : Int) + 1 := by have := HK.out; have := HN.out; rw [IntKind.wrap_i64]; omega
    have hkn1 : (k : Int) + 1 ≤ (n : Int) := by have := HK.out; omega
    have hnc : (n : Int) ≤ (c : Int) := by have := HC.out; omega
    have hkx : ¬ (k : Int) + 1 < 0 := by omega
    have RT := Lib.hid (Reads.pre (c := c) H.out HL.out (k := k) (by have := HK.out; omega))
    obtain ⟨A2, hA2⟩ : ∃ A2, (if c = k + 1 then some (⟨b, off, none⟩ : Addr) else some ⟨b, off + (k + 1) * 2, none⟩) = A2 := ⟨_, rfl⟩
    have RD : Hid (Reads w w.heap.size 2 A2 (n - (k + 1)) (P2 (m.drop (k + 1)))) := by
      unfold Hid
      have := H.out.cut (k := k + 1) (cap := c) (by have := HK.out; omega) HC.out
      rw [P2_drop] at this
      rw [← hA2]
      simpa [Addr.add_lit] using this
    have HB : Hid (b < w.heap.size) := hb
    clear hk hid hb
    go_wp2_with fail
    --R
    refine wp_region_held_drew (S := (fun _ => True)) (by kernel_rfl) trivial (fun _ => ?_)
    have RT2 : Hid (Reads w.drew w.drew.heap.size 2 (some ⟨b, off, none⟩) k (P2 (m.take k))) := RT.out
    have RD2 : Hid (Reads w.drew w.drew.heap.size 2 A2 (n - (k + 1)) (P2 (m.drop (k + 1)))) := RD.out
    have BD : Hid (Below w.heap.size w w.drew) := (Below.refl _ _).drew
    have SD : Hid (w.drew.heap.size = w.heap.size) := rfl
    generalize w.drew = w0 at RT2 RD2 BD SD ⊢
    refine takeD (i := 1) (d := some 14) (v := ?_) _ rfl rfl (by kernel_rfl) (by kernel_rfl) (by kernel_rfl) (fun _ _ _ h => h) (by rfl) ?_ trivial ?_
    rotate_left
    · (intro w hSw; (try dsimp only at hSw); go_simp) <;> with_reducible rfl
    try simp only [Act.put, List.setIfInBounds_toArray, List.set_cons_zero, List.set_cons_succ]
    refine takeD (i := 2) (d := some 15) (v := ?_) _ rfl rfl (by kernel_rfl) (by kernel_rfl) (by kernel_rfl) (fun _ _ _ h => h) (by rfl) ?_ trivial ?_
    rotate_left
    · (intro w hSw; (try dsimp only at hSw); go_simp) <;> with_reducible rfl
    try simp only [Act.put, List.setIfInBounds_toArray, List.set_cons_zero, List.set_cons_succ]
    refine takeD (i := 3) (d := some 16) (v := ?_) _ rfl rfl (by kernel_rfl) (by kernel_rfl) (by kernel_rfl) (fun _ _ _ h => h) (by rfl) ?_ trivial ?_
    rotate_left
    · (intro w hSw; (try dsimp only at hSw); go_simp) <;> with_reducible rfl
    try simp only [Act.put, List.setIfInBounds_toArray, List.set_cons_zero, List.set_cons_succ]
    refine takeD (i := 5) (d := some 18) (v := ?_) _ rfl rfl (by kernel_rfl) (by kernel_rfl) (by kernel_rfl) (fun _ _ _ h => h) (by rfl) ?_ trivial ?_
    rotate_left
    · (intro w hSw; (try dsimp only at hSw); go_simp) <;> with_reducible rfl
    try simp only [Act.put, List.setIfInBounds_toArray, List.set_cons_zero, List.set_cons_succ]
    refine takeD (i := 6) (d := some 19) (v := ?_) _ rfl rfl (by kernel_rfl) (by kernel_rfl) (by kernel_rfl) (fun _ _ _ h => h) (by rfl) ?_ trivial ?_
    rotate_left
    · (intro w hSw; (try dsimp only at hSw); go_simp) <;> with_reducible rfl
    try simp only [Act.put, List.setIfInBounds_toArray, List.set_cons_zero, List.set_cons_succ]
    refine takeD (i := 7) (d := some 20) (v := ?_) _ rfl rfl (by kernel_rfl) (by kernel_rfl) (by kernel_rfl) (fun _ _ _ h => h) (by rfl) ?_ trivial ?_
    rotate_left
    · (intro w hSw; (try dsimp only at hSw); go_simp) <;> with_reducible rfl
    try simp only [Act.put, List.setIfInBounds_toArray, List.set_cons_zero, List.set_cons_succ]
    refine takeD (i := 8) (d := some 21) (v := ?_) _ rfl rfl (by kernel_rfl) (by kernel_rfl) (by kernel_rfl) (fun _ _ _ h => h) (by rfl) ?_ trivial ?_
    rotate_left
    · (intro w hSw; (try dsimp only at hSw); go_simp) <;> with_reducible rfl
    try simp only [Act.put, List.setIfInBounds_toArray, List.set_cons_zero, List.set_cons_succ]
    refine wpAnyH_ready (rs := [0]) (by kernel_rfl) (by simp) ?_
    refine AllReadyH.cons rfl (fun K hK => ?_) AllReadyH.nil
    go_simp
    --B
    refine hK.out _ _ trivial (fun _ => ?_)
    clear hK K
    try simp only [Act.put, List.getElem_toArray, List.getElem_cons_succ, List.getElem_cons_zero, List.setIfInBounds_toArray, List.set_cons_zero, List.set_cons_succ]
    refine wpAnyH_ready (rs := [4]) (by kernel_rfl) (by simp) ?_
    refine AllReadyH.cons rfl (fun K hK => ?_) AllReadyH.nil
    refine wp_append_any _ (.tmp 13) (.tmp 16) _ rfl w0.heap.size 49 i0 _ 2 16 Try.underlying25 hi hz0 hz1 hz2 rfl (by omega) (.slice (some ⟨w0.heap.size, 0, none⟩) 0 0) 0 (P2 []) rfl (row_newP _ w0 (Nat.le_refl _)) w0.heap.size (some ⟨b, off, none⟩) k c (P2 (m.take k)) rfl (RT2.out.alloc (Nat.le_refl _) _) (P2_one _) ?c2 ?c3 ?c4 ?_
    case c2 => have := HK.out; have := HN.out; unfold maxLen; omega
    case c3 => have := HK.out; have := HN.out; omega
    case c4 => simp
    intro v1 w1 hown1 hg1 _
    have hown1' : w1.ownsRow w0.heap.size 49 2 v1 k (P2 (m.take k)) := by simpa [P2] using hown1
    obtain ⟨A3, c3, hv, ho1, hb1⟩ := own_ofP (row_newP w0.heap.size w0 (Nat.le_refl _)) ((Below.refl _ _).alloc (Nat.le_refl _) _) (by simp) hown1' hg1
    rw [hv]
    have HO1 := Lib.hid ho1
    have HB1 := Lib.hid hb1
    clear hv hown1 hown1' hg1 ho1 hb1
    refine hK.out _ _ trivial (fun _ => ?_)
    clear hK K
    try simp only [Act.put, List.getElem_toArray, List.getElem_cons_succ, List.getElem_cons_zero, List.setIfInBounds_toArray, List.set_cons_zero, List.set_cons_succ]
    refine wpAnyH_ready (rs := [9]) (by kernel_rfl) (by simp) ?_
    refine AllReadyH.cons rfl (fun K hK => ?_) AllReadyH.nil
    refine wp_append_any _ (.tmp 17) (.tmp 21) _ rfl w0.heap.size 49 i0 _ 2 16 Try.underlying25 hi hz0 hz1 hz2 rfl (by omega) (.slice A3 k c3) k (P2 (m.take k)) rfl HO1.out w0.heap.size A2 (n - (k + 1)) (c - (k + 1)) (P2 (m.drop (k + 1))) rfl (RD2.out.below HB1.out) (P2_one _) ?d2 ?d3 ?d4 ?_
    case d2 => have := HK.out; have := HN.out; unfold maxLen; omega
    case d3 => have := HK.out; have := HN.out; omega
    case d4 => exact HB1.out.size
    intro v2 w3 hown2 hg2 _
    have hown2' : w3.ownsRow w0.heap.size 49 2 v2 (k + (n - (k + 1))) (P2 (m.take k ++ m.drop (k + 1))) := by rw [P2_app]; exact hown2
    obtain ⟨A4, c4, hv, ho2, hb2⟩ := own_ofP HO1.out HB1.out HB1.out.size hown2' hg2
    rw [hv]
    have N2 : Hid (NR w w3 (some ⟨b, off, none⟩) A4 (k + (n - (k + 1))) c4 (m.take k ++ m.drop (k + 1))) := NR.of_own ho2 (by rw [SD.out]; exact Nat.le_refl _) (BD.out.trans (hb2.mono (by rw [SD.out]; exact Nat.le_refl _)))
    clear hv hown2 hown2' hg2 ho2 hb2
    refine hK.out _ _ trivial (fun _ => ?_)
    clear hK K
    try simp only [Act.put, List.getElem_toArray, List.getElem_cons_succ, List.getElem_cons_zero, List.setIfInBounds_toArray, List.set_cons_zero, List.set_cons_succ]
    refine takeD (i := 10) (d := some 4) (v := ?_) _ rfl rfl (by kernel_rfl) (by kernel_rfl) (by kernel_rfl) (fun _ _ _ h => h) (by rfl) ?_ trivial ?_
    rotate_left
    · (intro w hSw; (try dsimp only at hSw); go_simp) <;> with_reducible rfl
    try simp only [Act.put, List.setIfInBounds_toArray, List.set_cons_zero, List.set_cons_succ]
    refine takeD (i := 11) (d := some 5) (v := ?_) _ rfl rfl (by kernel_rfl) (by kernel_rfl) (by kernel_rfl) (fun _ _ _ h => h) (by rfl) ?_ trivial ?_
    rotate_left
    · (intro w hSw; (try dsimp only at hSw); go_simp) <;> with_reducible rfl
    try simp only [Act.put, List.setIfInBounds_toArray, List.set_cons_zero, List.set_cons_succ]
    refine wpAnyH_done (by kernel_rfl) ?_ _
    go_wp2_with fail
    go_ret2
    --Z
    exact ⟨_, _, _, _, _, rfl, .inl ⟨k, by rw [HL.out]; exact HK.out, HID.out, rfl, rfl⟩, N2.out⟩
  · have HNO := Lib.hid hno
    clear hno
    go_wp2_with fail
    go_ret2
    have N2 : NR w w A A n c m := ⟨HC.out, H.out, HL.out, .inl rfl, Below.refl _ _⟩
    exact ⟨_, _, _, _, _, rfl, .inr ⟨HNO.out, rfl, rfl⟩, N2⟩
theorem NR.refl {w : World} {A : Option Addr} {n c : Nat} {m : List (Int × Int)} (h : Reads w w.heap.size 2 A n (P2 m)) (hL : m.length = n) (hc : n ≤ c) : NR w w A A n c m := ⟨hc, h, hL, .inl rfl, Below.refl _ _⟩
theorem NR.trans {w w1 w2 : World} {A A1 A2 : Option Addr} {n1 c1 n2 c2 : Nat} {m1 m2 : List (Int × Int)} (h : NR w w1 A A1 n1 c1 m1) (k : NR w1 w2 A1 A2 n2 c2 m2) : NR w w2 A A2 n2 c2 m2 := by
  refine ⟨k.cap, k.rd, k.len, ?_, h.bl.trans (k.bl.mono h.bl.size)⟩
  rcases k.fr with e | e
  · subst e
    rcases h.fr with e | e
    · exact .inl e
    · exact .inr fun ad h1 => ⟨(e ad h1).1, Nat.lt_of_lt_of_le (e ad h1).2 k.bl.size⟩
  · exact .inr fun ad h1 => ⟨Nat.le_trans h.bl.size (e ad h1).1, (e ad h1).2⟩
/-- What Put answers. -/
def PuR (m : List (Int × Int)) (id pr : Int) (ah : Bool) (r : Int) (m' : List (Int × Int)) : Prop :=
  ((id < 0 ∨ pr < 0 ∨ 63 < pr) ∧ r = 2 ∧ m' = m) ∨ (0 ≤ id ∧ 0 ≤ pr ∧ pr ≤ 63 ∧ ((∃ k, k < m.length ∧ (m.getD k (0, 0)).1 = id) ∧ r = 7 ∧ m' = m ∨ (∀ k, k < m.length → (m.getD k (0, 0)).1 ≠ id) ∧ r = 0 ∧ InsR m (id, pr) ah m'))
set_option maxRecDepth 100000 in
set_option maxHeartbeats 4000000 in
theorem rput_any (A : Option Addr) (n c : Nat) (id pr : Int) (ah : Bool) (m : List (Int × Int)) (w : World) (h : Reads w w.heap.size 2 A n (P2 m)) (hL : m.length = n) (hn : n ≤ 1000) (hc : n ≤ c) :
    Calls Try.prog 25 #[.slice A n c, .int .i64 id, .int .i64 pr, .bool ah] w fun e w' => ∃ A' n' c' r m', e = .returned (.tuple #[.slice A' n' c', .int .i64 r]) ∧ PuR m id pr ah r m' ∧ NR w w' A A' n' c' m' := by
  have FD := Lib.hid (rfind_any A n c id m w _ h hL hn)
  have IN := Lib.hid (rins_any A n c id pr ah m w _ h hL hn (Nat.le_refl _))
  have N0 := Lib.hid (NR.refl h hL hc)
  have HN := Lib.hid hn
  clear h hL hn hc
  go_enter Try.func25, Try.ntmps25
  by_cases h1 : id < 0
  · have HB : Hid (id < 0 ∨ pr < 0 ∨ 63 < pr) := .inl h1
    go_wp2_with fail
    go_ret2
    first | exact ⟨_, _, _, _, _, rfl, .inl ⟨HB.out, rfl, rfl⟩, N0.out⟩ | exact ⟨_, _, _, _, rfl, _, .inl ⟨HB.out, rfl, rfl⟩, N0.out⟩
  · have h1B : decide (id < 0) = false := decide_eq_false h1
    by_cases h2 : pr < 0
    · have HB : Hid (id < 0 ∨ pr < 0 ∨ 63 < pr) := .inr (.inl h2)
      go_wp2_with fail
      go_ret2
      first | exact ⟨_, _, _, _, _, rfl, .inl ⟨HB.out, rfl, rfl⟩, N0.out⟩ | exact ⟨_, _, _, _, rfl, _, .inl ⟨HB.out, rfl, rfl⟩, N0.out⟩
    · have h2B : decide (pr < 0) = false := decide_eq_false h2
      by_cases h3 : 63 < pr
      · have HB : Hid (id < 0 ∨ pr < 0 ∨ 63 < pr) := .inr (.inr h3)
        go_wp2_with fail
        go_ret2
        first | exact ⟨_, _, _, _, _, rfl, .inl ⟨HB.out, rfl, rfl⟩, N0.out⟩ | exact ⟨_, _, _, _, rfl, _, .inl ⟨HB.out, rfl, rfl⟩, N0.out⟩
      · have h3B : decide (63 < pr) = false := decide_eq_false h3
        have HR : Hid (0 ≤ id ∧ 0 ≤ pr ∧ pr ≤ 63) := ⟨by omega, by omega, by omega⟩
        go_wp2_with fail
        refine FD.out.mono ?_
        rintro e w2 ⟨r, rfl, hf, hw⟩
        have hw := hw.symm
        subst hw
        clear FD
        rcases hf with ⟨k, hk, rfl, hid⟩ | ⟨rfl, hno⟩
        · have HK : Hid (∃ k, k < m.length ∧ (m.getD k (0, 0)).1 = id) := ⟨k, hk, hid⟩
          have hk0 : (0 : Int) ≤ (k : Int) := by omega
          clear hk hid
          go_wp2_with fail
          go_ret2
          exact ⟨_, _, _, _, _, rfl, .inr ⟨HR.out.1, HR.out.2.1, HR.out.2.2, .inl ⟨HK.out, rfl, rfl⟩⟩, N0.out⟩
        · have HNO := Lib.hid hno
          clear hno
          go_wp2_with fail
          refine IN.out.mono ?_
          rintro e w3 ⟨A', n', c', m', rfl, hi, hn⟩
          have HI := Lib.hid hi
          have HNR := Lib.hid hn
          clear hi hn IN
          go_wp2_with fail
          go_ret2
          exact ⟨_, _, _, _, _, rfl, .inr ⟨HR.out.1, HR.out.2.1, HR.out.2.2, .inr ⟨HNO.out, rfl, HI.out⟩⟩, HNR.out⟩
/-- What Change answers. -/
def ChR (m : List (Int × Int)) (id pr : Int) (ok : Bool) (m' : List (Int × Int)) : Prop :=
  (((∀ k, k < m.length → (m.getD k (0, 0)).1 ≠ id) ∨ pr < 0 ∨ 63 < pr) ∧ ok = false ∧ m' = m) ∨
  (0 ≤ pr ∧ pr ≤ 63 ∧ ok = true ∧ ∃ k, k < m.length ∧ (m.getD k (0, 0)).1 = id ∧ (((m.getD k (0, 0)).2 = pr ∧ m' = m) ∨ ((m.getD k (0, 0)).2 ≠ pr ∧ ∃ o m1, DpR m id o m1 ∧ InsR m1 (id, pr) false m')))
set_option maxRecDepth 100000 in
set_option maxHeartbeats 4000000 in
theorem rchange_any (A : Option Addr) (n c : Nat) (id pr : Int) (m : List (Int × Int)) (w : World) (h : Reads w w.heap.size 2 A n (P2 m)) (hL : m.length = n) (hn : n ≤ 1000) (hc : n ≤ c) :
    Calls Try.prog 27 #[.slice A n c, .int .i64 id, .int .i64 pr] w fun e w' => ∃ A' n' c' ok m', e = .returned (.tuple #[.slice A' n' c', .bool ok]) ∧ ChR m id pr ok m' ∧ NR w w' A A' n' c' m' := by
  have FD := Lib.hid (rfind_any A n c id m w _ h hL hn)
  have DR := Lib.hid (rdrop_any A n c id m w h hL hn hc)
  have H := Lib.hid h
  have HL := Lib.hid hL
  have N0 := Lib.hid (NR.refl h hL hc)
  have HN := Lib.hid hn
  clear h hL hn hc
  go_enter Try.func27, Try.ntmps27
  go_wp2_with fail
  refine FD.out.mono ?_
  rintro e w2 ⟨r, rfl, hf, hw⟩
  have hw := hw.symm
  subst hw
  clear FD
  rcases hf with ⟨k, hk, rfl, hid⟩ | ⟨rfl, hno⟩
  · have HK : Hid (k < n) := by unfold Hid; rw [← HL.out]; exact hk
    have HID := Lib.hid hid
    have hk0 : (0 : Int) ≤ (k : Int) := by omega
    have hk0B : decide ((k : Int) < 0) = false := by rw [decide_eq_false_iff_not]; omega
    clear hk hid
    by_cases h2 : pr < 0
    · have HB : Hid ((∀ k, k < m.length → (m.getD k (0, 0)).1 ≠ id) ∨ pr < 0 ∨ 63 < pr) := .inr (.inl h2)
      go_wp2_with fail
      go_ret2
      first | exact ⟨_, _, _, _, _, rfl, .inl ⟨HB.out, rfl, rfl⟩, N0.out⟩ | exact ⟨_, _, _, _, rfl, _, .inl ⟨HB.out, rfl, rfl⟩, N0.out⟩
    · have h2B : decide (pr < 0) = false := decide_eq_false h2
      by_cases h3 : 63 < pr
      · have HB : Hid ((∀ k, k < m.length → (m.getD k (0, 0)).1 ≠ id) ∨ pr < 0 ∨ 63 < pr) := .inr (.inr h3)
        go_wp2_with fail
        go_ret2
        first | exact ⟨_, _, _, _, _, rfl, .inl ⟨HB.out, rfl, rfl⟩, N0.out⟩ | exact ⟨_, _, _, _, rfl, _, .inl ⟨HB.out, rfl, rfl⟩, N0.out⟩
      · have h3B : decide (63 < pr) = false := decide_eq_false h3
        have HR : Hid (0 ≤ pr ∧ pr ≤ 63) := ⟨by omega, by omega⟩
        obtain ⟨b, off, rfl, _, _, hcc⟩ := place_p H.out (by have := HK.out; omega)
        obtain ⟨d0, d1⟩ := hcc k HK.out
        obtain ⟨y, hy⟩ : ∃ y, (m.getD k (0, 0)).2 = y := ⟨_, rfl⟩
        rw [hy] at d1
        have HY := Lib.hid hy
        have hkn : (k : Int) < (n : Int) := by have := HK.out; omega
        clear hcc d0 hy
        by_cases he : y = pr
        · have hyB : (y == pr) = true := by rw [beq_iff_eq]; exact he
          have HE := Lib.hid he
          clear he
          go_wp2_with fail
          go_ret2
          exact ⟨_, _, _, _, _, rfl, .inr ⟨HR.out.1, HR.out.2, rfl, k, by rw [HL.out]; exact HK.out, HID.out, .inl ⟨by rw [HY.out]; exact HE.out, rfl⟩⟩, N0.out⟩
        · have hyB : (y == pr) = false := by rw [beq_eq_false_iff_ne]; exact he
          have HE : Hid (y ≠ pr) := he
          clear he
          go_wp2_with fail
          refine DR.out.mono ?_
          rintro e w3 ⟨A1, n1, c1, o1, m1, rfl, hd1, hn1⟩
          have HD1 := Lib.hid hd1
          have HN1 := Lib.hid hn1
          have HNL : Hid (n1 ≤ 1000) := by
            unfold Hid
            have h1 := hn1.len
            have h2 := HL.out
            have h3 := HN.out
            rcases hd1 with ⟨k, hk, _, _, rfl⟩ | ⟨_, _, rfl⟩
            · rw [List.length_append, List.length_take, List.length_drop] at h1; omega
            · omega
          clear hd1 hn1 DR d1
          go_wp2_with fail
          refine (rins_any A1 n1 c1 id pr false m1 w3 _ HN1.out.rd HN1.out.len HNL.out (Nat.le_refl _)).mono ?_
          rintro e w4 ⟨A2, n2, c2, m2, rfl, hi2, hn2⟩
          have HI2 := Lib.hid hi2
          have HN2 := Lib.hid (HN1.out.trans hn2)
          clear hi2 hn2
          go_wp2_with fail
          go_ret2
          exact ⟨_, _, _, _, _, rfl, .inr ⟨HR.out.1, HR.out.2, rfl, k, by rw [HL.out]; exact HK.out, HID.out, .inr ⟨by rw [HY.out]; exact HE.out, o1, m1, HD1.out, HI2.out⟩⟩, HN2.out⟩
  · have HB : Hid ((∀ k, k < m.length → (m.getD k (0, 0)).1 ≠ id) ∨ pr < 0 ∨ 63 < pr) := .inl hno
    clear hno
    go_wp2_with fail
    go_ret2
    first | exact ⟨_, _, _, _, _, rfl, .inl ⟨HB.out, rfl, rfl⟩, N0.out⟩ | exact ⟨_, _, _, _, rfl, _, .inl ⟨HB.out, rfl, rfl⟩, N0.out⟩
end Go.Proofs.Ytbkjcjkbicaibaa
