/-
  The walk of SpaceFills. Each statement bears its own conditions.
-/
import Derived.Test.YtliggejkpmlgfaaSpZ
namespace Go.Proofs.Ytliggejkpmlgfaa
open Go.RowKit
set_option linter.unusedVariables false
set_option linter.unusedSimpArgs false
/-- Whether places one behind the other are all in an area. -/
def allIn (l : List MA) (a : Int) (k : Nat) : Bool := (List.range k).all fun j => (atL (a + (j : Int)) l 0).isSome
theorem allIn_succ (l : List MA) (a : Int) (k : Nat) : allIn l a (k + 1) = (allIn l a k && (atL (a + (k : Int)) l 0).isSome) := by
  unfold allIn; rw [List.range_succ, List.all_append]; simp
theorem fillGo_all {l : List MA} : ∀ {ns : List Int} {a : Int} {LL : List (List Int)}, (∀ j : Nat, j < ns.length → (atL (a + (j : Int)) l 0).isSome = true) → ∃ M, fillGo l a ns LL = some M
  | [], _, LL, _ => ⟨LL, rfl⟩
  | y :: r, a, LL, h => by
    have h0 := h 0 (by simp)
    have e0 : a + ((0 : Nat) : Int) = a := by simp
    rw [e0] at h0
    obtain ⟨q, hq⟩ := Option.isSome_iff_exists.1 h0
    obtain ⟨i, k⟩ := q
    unfold fillGo; rw [hq]
    refine fillGo_all fun j hj => ?_
    have h1 := h (j + 1) (by simp; omega)
    have e : a + ((j + 1 : Nat) : Int) = a + 1 + (j : Int) := by omega
    rw [e] at h1; exact h1
theorem fillGo_isSome {l : List MA} {ns : List Int} {a : Int} {LL : List (List Int)} : (fillGo l a ns LL).isSome = allIn l a ns.length := by
  cases hA : allIn l a ns.length with
  | true =>
    obtain ⟨M, hM⟩ := fillGo_all (LL := LL) (ns := ns) (a := a) (l := l) fun j hj => by
      unfold allIn at hA
      rw [List.all_eq_true] at hA
      exact hA j (by simpa using hj)
    rw [hM]; rfl
  | false =>
    unfold allIn at hA
    rw [List.all_eq_false] at hA
    obtain ⟨j, hj, hn⟩ := hA
    have := fillGo_none (LL := LL) (ns := ns) (at_ := a) (l := l) (m := j) (by simpa using hj) (by simpa using hn)
    rw [this]; rfl
theorem fillGo_val {l : List MA} : ∀ {ns : List Int} {a : Int} {LL M : List (List Int)}, Sh l LL → (∀ x ∈ ns, U32 x) → fillGo l a ns LL = some M → ∀ p : Int, ldV p l M = if a ≤ p ∧ p < a + ns.length then ((ns[(p - a).toNat]?).getD 0, 0) else ldV p l LL
  | [], a, LL, M, hs, hu, h, p => by
    unfold fillGo at h
    injection h with h
    subst h
    rw [if_neg (by first | (simp; done) | (simp; omega))]
  | y :: r, a, LL, M, hs, hu, h, p => by
    unfold fillGo at h
    rcases hq : atL a l 0 with _ | ⟨i, k⟩
    · rw [hq] at h; cases h
    · rw [hq] at h
      dsimp only at h
      have hs2 := hs.put i k (hu y (by simp))
      rw [fillGo_val hs2 (fun x hx => hu x (by simp [hx])) h p, ldV_put hs hq]
      by_cases hp : p = a
      · subst hp
        rw [if_neg (by omega), if_pos rfl, if_pos (by simp; omega)]
        simp
      · by_cases hin : a + 1 ≤ p ∧ p < a + 1 + r.length
        · rw [if_pos hin, if_pos (by simp; omega)]
          have e : (p - a).toNat = (p - (a + 1)).toNat + 1 := by omega
          rw [e]; simp
        · rw [if_neg hin, if_neg hp, if_neg (by simp; omega)]
structure Fi1Rel (own : List MA) (a : Int) (nk : Nat) (w : World) (W0 : World) (v12 v : Value) (wr : World) : Prop where
  ex : ∃ k : Nat, k ≤ nk ∧ v = .int .i64 (k : Int) ∧ v12 = .bool (allIn own a k) ∧ Below W0.heap.size W0 wr
structure Fi2Rel (W0 : World) (v : Value) (wr : World) : Prop where
  ex : ∃ k : Nat, k ≤ 110 ∧ v = .int .u32 (k : Int) ∧ Below W0.heap.size W0 wr
set_option maxRecDepth 100000 in
set_option maxHeartbeats 16000000 in
theorem fills_walk (A : Option Addr) (n c : Nat) (ww : Int) (Au : Option Addr) (nu cu : Nat) (l : List MA) (w : World) (hl : Row w 5 RAq (.slice A n c) l) (hw : U32 ww) (hu : UW w Au nu cu) :
    Calls Try.prog 8 #[.slice A n c, .int .u32 ww, .slice Au nu cu] w fun e w' => e = .returned (.bool true) ∧ Below w.heap.size w w' := by
  have HL : Hid (St w.heap.size w 5 (.slice A n c) l.length (CA l)) := by
    obtain ⟨h1, _, h2⟩ := row_areas hl
    unfold Hid; rw [h1]; exact h2 _ (Nat.le_refl _)
  obtain ⟨huc, ns, hnn, hus, hst⟩ := hu
  obtain ⟨nk, hnk⟩ : ∃ nk, min nu 20 = nk := ⟨_, rfl⟩
  have HNK : Hid (nk ≤ nu ∧ nk ≤ 20) := by unfold Hid; omega
  have hnkI : min (nu : Int) 20 = (nk : Int) := by omega
  have hkc : nk ≤ cu := by have := HNK.out; omega
  obtain ⟨ms, hms⟩ : ∃ ms, ns.take nk = ms := ⟨_, rfl⟩
  have HTL : Hid (ms.length = nk) := by unfold Hid; rw [← hms, List.length_take, hnn]; have := HNK.out; omega
  have HUS : Hid (∀ x ∈ ms, U32 x) := by rw [← hms]; exact fun x hx => hus x (List.mem_of_mem_take hx)
  have HVK : Hid (∀ g, w.heap.size ≤ g → St g w 1 (.slice Au nk cu) nk (CU ms)) := fun g hg => by
    have h1 := (hst g hg).cut HNK.out.1
    have h2 : (CU ns).take nk = CU (ns.take nk) := by simp [CU, List.map_take]
    rw [← hms, ← h2]; exact h1
  obtain ⟨an, han⟩ : ∃ an : Nat, Int.tmod ww 80 = (an : Int) := ⟨(Int.tmod ww 80).toNat, by have := hw.1; have := Int.tmod_nonneg 80 hw.1; omega⟩
  have HAN : Hid (an < 80) := by
    have := Int.tmod_lt_of_pos ww (b := 80) (by omega)
    unfold Hid; omega
  have hwa : IntKind.u32.wrap (an : Int) = (an : Int) := by have := HAN.out; rw [IntKind.wrap_u32]; omega
  have hnk20 : nk ≤ 20 := HNK.out.2
  have han80 : an < 80 := HAN.out
  clear hl hst hus hnn hnk hms hw
  go_enter Try.func8, Try.ntmps8
  go_wp2_with fail
  refine (fix_any w.heap.size _ l w HL.out).mono ?_
  rintro e W1 ⟨⟨own, A1, c1, a1, rfl, hown1, ho1⟩, b1⟩
  obtain ⟨n1, hn1⟩ : ∃ n1, own.length = n1 := ⟨_, rfl⟩
  rw [hn1] at ho1 ⊢
  have HOWN := Lib.hid hown1
  have HN1 := Lib.hid hn1
  have HO1 := Lib.hid ho1
  have HB1 := Lib.hid b1
  have HN6 : Hid (n1 ≤ 6) := by have := hown1.few; unfold Hid; omega
  have hc1 : n1 ≤ c1 := own_cap ho1
  have HI64 : Hid (∀ x ∈ own, I64 x.frm ∧ I64 x.wds) := fun x hx => by have := hown1.each x hx; have := hown1.end_; have := hown1.few; unfold I64; omega
  clear hown1 hn1 ho1 b1
  go_wp2_with fail
  refine (new_any W1.heap.size A1 n1 c1 own W1 (St.of_own' HO1.out (fun k hk => by have := (HO1.out.lt k hk).2; omega)) HN1.out hc1 HI64.out (by have := HN6.out; omega)).mono ?_
  rintro e W2 ⟨_, hok, b2⟩
  obtain ⟨p, rb, rfl, hsp⟩ := hok HOWN.out.ok
  obtain ⟨lo, hlo⟩ : ∃ lo, W1.heap.size = lo := ⟨_, rfl⟩
  have HSH : Hid (Sh own (LL0 own)) := LL0_sh HOWN.out.ok
  have hzz : zeros own = (LL0 own).flatten := (LL0_flat HSH.out.good).symm
  rw [hzz] at hsp
  have HLO : Hid (w.heap.size ≤ lo) := by rw [← hlo]; exact HB1.out.size
  have HB2 : Hid (Below w.heap.size w W2) := HB1.out.trans (b2.mono HB1.out.size)
  have HST2 : Hid (St rb W2 5 (.slice A1 n1 c1) n1 (CA own)) := by
    have hrb := hsp.hr.1
    exact (St.of_own' HO1.out (fun k hk => by have := (HO1.out.lt k hk).2; omega)).below b2
  rw [hlo] at hsp
  obtain ⟨hi, hhi⟩ : ∃ hi, W2.heap.size = hi := ⟨_, rfl⟩
  have hhi2 := hsp.hs
  have HSP2 : Hid (SP lo hi W2 p rb own (LL0 own).flatten) := by rw [← hhi]; exact hsp
  have he : ∀ w : World, (binOp .eql 25 (.pointer (some ⟨p, 0, none⟩)) (.pointer none)).run Try.prog w = .ok (.bool false) w := fun _ => rfl
  have HHI : Hid (hi = W2.heap.size) := hhi.symm
  clear hok hsp b2 hlo hhi hzz hhi2 HO1
  go_wp2_with fail
  refine (rnew_any rb A1 n1 c1 own W2 HST2.out HN1.out HI64.out (by have := HN6.out; omega)).mono ?_
  rintro e W3 ⟨_, hok, b3⟩
  obtain ⟨va, vl, rfl, hrs⟩ := hok HOWN.out.ok
  have hrs1 := hrs rb (by have := HSP2.out.hr.2; have := HHI.out; omega)
  have HALL := Lib.hid hrs
  obtain ⟨A2, c2, A3, c3, hva, hvl⟩ := hrs1.form
  obtain ⟨m3, hm3⟩ : ∃ m3, (LL0 own).length = m3 := ⟨_, rfl⟩
  rw [HN1.out] at hva
  rw [hm3] at hvl
  subst hva hvl
  have HRS3 := Lib.hid hrs1
  have HSP3 := Lib.hid (HSP2.out.below b3)
  have HST3 := Lib.hid (HST2.out.below b3)
  have HB3 : Hid (Below w.heap.size w W3) := HB2.out.trans (b3.mono HB2.out.size)
  have HSZ3 : Hid (hi ≤ W3.heap.size) := by rw [HHI.out]; exact b3.size
  clear hok hrs hrs1 b3 hm3
  go_wp2_with fail
  obtain ⟨W4, hW4⟩ : ∃ W4, W3.alloc (.cells #[.slice A2 n1 c2, .slice A3 m3 c3] 31) = W4 := ⟨_, rfl⟩
  simp only [hW4]
  have b34 : Below W3.heap.size W3 W4 := by rw [← hW4]; exact (Below.refl _ _).alloc (Nat.le_refl _) _
  obtain ⟨b8, hb8⟩ : ∃ b8, W3.heap.size = b8 := ⟨_, rfl⟩
  have HQ4 : Hid (W4.heap[b8]? = some (.cells #[.slice A2 n1 c2, .slice A3 m3 c3] 31 (0, 0))) := by rw [← hW4, ← hb8]; exact heap_alloc_new _ _
  have HSP4 := Lib.hid (HSP3.out.below b34)
  have HST4 := Lib.hid (HST3.out.below b34)
  have HRS4 := Lib.hid (HRS3.out.below b34)
  have HB4 : Hid (Below w.heap.size w W4) := HB3.out.trans (b34.mono HB3.out.size)
  try simp only [hb8]
  clear hW4 b34 hb8
  refine (told_any W4).mono ?_
  rintro e W5 ⟨rfl, b5⟩
  have HQ5 := Lib.hid (heap_keep b5 HQ4.out)
  have HSP5 := Lib.hid (HSP4.out.below b5)
  have HST5 := Lib.hid (HST4.out.below b5)
  have HRS5 := Lib.hid (HRS4.out.below b5)
  have HB5 : Hid (Below w.heap.size w W5) := HB4.out.trans (b5.mono HB4.out.size)
  have HRBW : Hid (w.heap.size ≤ rb ∧ rb < hi) := by have := HSP5.out.hr; have := HLO.out; unfold Hid; omega
  clear b5 HQ4 HSP2 HSP3 HSP4 HRS3 HRS4 HST2 HST3 HST4 HB1 HB2 HB3 HB4 HALL HSZ3 HHI
  go_wp2_with fail
  refine wp_region_held_drew (S := fun _ => True) (by kernel_rfl) trivial (fun hHeld => ?_)
  refine takeD (i := 0) (d := some 48) (v := ?_) _ rfl rfl (by kernel_rfl) (by kernel_rfl) (by kernel_rfl) (fun _ _ _ h => h) (by rfl) ?_ (by assumption) ?_
  rotate_left
  · (intro w hSw; (try dsimp only at hSw); go_simp) <;> with_reducible rfl
  try simp only [Act.put, List.setIfInBounds_toArray, List.set_cons_zero, List.set_cons_succ]
  refine takeD (i := 1) (d := some 49) (v := ?_) _ rfl rfl (by kernel_rfl) (by kernel_rfl) (by kernel_rfl) (fun _ _ _ h => h) (by rfl) ?_ (by assumption) ?_
  rotate_left
  · (intro w hSw; (try dsimp only at hSw); go_simp) <;> with_reducible rfl
  try simp only [Act.put, List.setIfInBounds_toArray, List.set_cons_zero, List.set_cons_succ]
  refine takeD (i := 2) (d := some 50) (v := ?_) _ rfl rfl (by kernel_rfl) (by kernel_rfl) (by kernel_rfl) (fun _ _ _ h => h) (by rfl) ?_ (by assumption) ?_
  rotate_left
  · (intro w hSw; (try dsimp only at hSw); go_simp) <;> with_reducible rfl
  try simp only [Act.put, List.setIfInBounds_toArray, List.set_cons_zero, List.set_cons_succ]
  refine takeD (i := 3) (d := some 51) (v := ?_) _ rfl rfl (by kernel_rfl) (by kernel_rfl) (by kernel_rfl) (fun _ _ _ h => h) (by rfl) ?_ (by assumption) ?_
  rotate_left
  · (intro w hSw; (try dsimp only at hSw); go_simp) <;> with_reducible rfl
  try simp only [Act.put, List.setIfInBounds_toArray, List.set_cons_zero, List.set_cons_succ]
  refine takeD (i := 4) (d := some 52) (v := ?_) _ rfl rfl (by kernel_rfl) (by kernel_rfl) (by kernel_rfl) (fun _ _ _ h => h) (by rfl) ?_ (by assumption) ?_
  rotate_left
  · (intro w hSw; (try dsimp only at hSw); go_simp) <;> with_reducible rfl
  try simp only [Act.put, List.setIfInBounds_toArray, List.set_cons_zero, List.set_cons_succ]
  refine takeD (i := 5) (d := some 53) (v := ?_) _ rfl rfl (by kernel_rfl) (by kernel_rfl) (by kernel_rfl) (fun _ _ _ h => h) (by rfl) ?_ (by assumption) ?_
  rotate_left
  · (intro w hSw; (try dsimp only at hSw); go_simp) <;> with_reducible rfl
  try simp only [Act.put, List.setIfInBounds_toArray, List.set_cons_zero, List.set_cons_succ]
  refine takeD (i := 6) (d := some 54) (v := ?_) _ rfl rfl (by kernel_rfl) (by kernel_rfl) (by kernel_rfl) (fun _ _ _ h => h) (by rfl) ?_ (by assumption) ?_
  rotate_left
  · (intro w hSw; (try dsimp only at hSw); go_simp) <;> with_reducible rfl
  try simp only [Act.put, List.setIfInBounds_toArray, List.set_cons_zero, List.set_cons_succ]
  refine takeD (i := 7) (d := some 1) (v := ?_) _ rfl rfl (by kernel_rfl) (by kernel_rfl) (by kernel_rfl) (fun _ _ _ h => h) (by rfl) ?_ (by assumption) ?_
  rotate_left
  · (intro w hSw; (try dsimp only at hSw); go_simp) <;> with_reducible rfl
  try simp only [Act.put, List.setIfInBounds_toArray, List.set_cons_zero, List.set_cons_succ]
  refine takeD (i := 8) (d := some 2) (v := ?_) _ rfl rfl (by kernel_rfl) (by kernel_rfl) (by kernel_rfl) (fun _ _ _ h => h) (by rfl) ?_ (by assumption) ?_
  rotate_left
  · (intro w hSw; (try dsimp only at hSw); go_simp) <;> with_reducible rfl
  try simp only [Act.put, List.setIfInBounds_toArray, List.set_cons_zero, List.set_cons_succ]
  refine wpAnyH_done (by kernel_rfl) ?_ _
  obtain ⟨W6, hW6⟩ : ∃ W6, W5.drew = W6 := ⟨_, rfl⟩
  simp only [hW6]
  have b56 : Below W5.heap.size W5 W6 := by rw [← hW6]; exact below_drewN (Below.refl _ _) 1
  have HQ6 := Lib.hid (heap_keep b56 HQ5.out)
  have HSP6 := Lib.hid (HSP5.out.below b56)
  have HST6 := Lib.hid (HST5.out.below b56)
  have HRS6 := Lib.hid (HRS5.out.below b56)
  have HB6 : Hid (Below w.heap.size w W6) := HB5.out.trans (b56.mono HB5.out.size)
  clear hHeld hW6 b56 HQ5 HSP5 HST5 HRS5 HB5
  go_wp2_with fail
  go_loopw [12, 13] (fun v12 v wr => Fi1Rel own (an : Int) nk w W6 v12 v wr) (fun _ v => fun _ => nk - (intOf v).toNat)
  case atStart => exact ⟨⟨0, Nat.zero_le _, rfl, rfl, Below.refl _ _⟩⟩
  case round =>
    obtain ⟨⟨k, hk1, rfl, rfl, hb⟩⟩ := hrel
    have HKN := Lib.hid hk1
    have HSP := Lib.hid (HSP6.out.below hb)
    have HRS := Lib.hid (HRS6.out.below hb)
    have HQ := Lib.hid (heap_keep hb HQ6.out)
    have HB := Lib.hid hb
    clear hk1 hb
    by_cases hlt : k < nk
    · have hkI : (k : Int) < (nk : Int) := by omega
      have HKX : Hid (k < nk) := hlt
      have hw3 : IntKind.u32.wrap (k : Int) = (k : Int) := by have := HNK.out; rw [IntKind.wrap_u32]; omega
      have hw4 : IntKind.u32.wrap ((an : Int) + (k : Int)) = (an : Int) + (k : Int) := by have := HNK.out; have := HAN.out; rw [IntKind.wrap_u32]; omega
      have x0 : wr.cell? ⟨b8, 0, none⟩ = some (.slice A2 n1 c2) := by have := (row_cell HQ.out 0).1; simpa using this
      have x1 : wr.cell? ⟨b8, 1, none⟩ = some (.slice A3 m3 c3) := by have := (row_cell HQ.out 1).1; simpa using this
      have CT := Lib.hid (rat_any rb (.slice A2 n1 c2) A3 m3 c3 own ((an : Int) + (k : Int)) wr HRS.out.a HSH.out.good HSH.out.few (by have := HNK.out; have := HAN.out; unfold U32; omega))
      have HNX := Lib.hid (allIn_succ own (an : Int) k)
      clear hlt
      rcases hat : atL ((an : Int) + (k : Int)) own 0 with _ | ⟨i, j⟩
      · have hrt : rtV ((an : Int) + (k : Int)) own = (-1, 0) := by unfold rtV; rw [hat]
        rw [hrt] at CT
        rw [hat] at HNX
        dsimp only at CT
        clear hrt hat
        cases hA : allIn own (an : Int) k
        · rw [hA] at HNX
          have HNY : Hid (allIn own (an : Int) (k + 1) = false) := HNX.out
          clear hA HNX
          go_wp2_with fail
          refine CT.out.mono ?_
          rintro e V1 ⟨rfl, bv1⟩
          have BV : Hid (Below W6.heap.size W6 V1) := HB.out.trans (bv1.mono HB.out.size)
          clear CT bv1 x0 x1
          go_wp2_with fail
          go_roundw
          case rel =>
            have Q : Fi1Rel own (an : Int) nk w W6 (.bool false) (.int .i64 ((k : Int) + 1)) V1 := ⟨⟨k + 1, HKX.out, by go_num, by rw [HNY.out], BV.out⟩⟩
            first | exact Q | ((repeat apply Exists.intro); exact ⟨Q, rfl⟩)
          case measure => have := HKX.out; simp [intOf]; omega
        · rw [hA] at HNX
          have HNY : Hid (allIn own (an : Int) (k + 1) = false) := HNX.out
          clear hA HNX
          go_wp2_with fail
          refine CT.out.mono ?_
          rintro e V1 ⟨rfl, bv1⟩
          have BV : Hid (Below W6.heap.size W6 V1) := HB.out.trans (bv1.mono HB.out.size)
          clear CT bv1 x0 x1
          go_wp2_with fail
          go_roundw
          case rel =>
            have Q : Fi1Rel own (an : Int) nk w W6 (.bool false) (.int .i64 ((k : Int) + 1)) V1 := ⟨⟨k + 1, HKX.out, by go_num, by rw [HNY.out], BV.out⟩⟩
            first | exact Q | ((repeat apply Exists.intro); exact ⟨Q, rfl⟩)
          case measure => have := HKX.out; simp [intOf]; omega
      · have hrt : rtV ((an : Int) + (k : Int)) own = ((i : Int), (j : Int)) := by unfold rtV; rw [hat]
        rw [hrt] at CT
        rw [hat] at HNX
        dsimp only at CT
        have hi0 : (0 : Int) ≤ (i : Int) := by omega
        clear hrt hat
        cases hA : allIn own (an : Int) k
        · rw [hA] at HNX
          have HNY : Hid (allIn own (an : Int) (k + 1) = false) := HNX.out
          clear hA HNX
          go_wp2_with fail
          refine CT.out.mono ?_
          rintro e V1 ⟨rfl, bv1⟩
          have BV : Hid (Below W6.heap.size W6 V1) := HB.out.trans (bv1.mono HB.out.size)
          clear CT bv1 x0 x1
          go_wp2_with fail
          go_roundw
          case rel =>
            have Q : Fi1Rel own (an : Int) nk w W6 (.bool false) (.int .i64 ((k : Int) + 1)) V1 := ⟨⟨k + 1, HKX.out, by go_num, by rw [HNY.out], BV.out⟩⟩
            first | exact Q | ((repeat apply Exists.intro); exact ⟨Q, rfl⟩)
          case measure => have := HKX.out; simp [intOf]; omega
        · rw [hA] at HNX
          have HNY : Hid (allIn own (an : Int) (k + 1) = true) := HNX.out
          clear hA HNX
          go_wp2_with fail
          refine CT.out.mono ?_
          rintro e V1 ⟨rfl, bv1⟩
          have BV : Hid (Below W6.heap.size W6 V1) := HB.out.trans (bv1.mono HB.out.size)
          clear CT bv1 x0 x1
          go_wp2_with fail
          go_roundw
          case rel =>
            have Q : Fi1Rel own (an : Int) nk w W6 (.bool true) (.int .i64 ((k : Int) + 1)) V1 := ⟨⟨k + 1, HKX.out, by go_num, by rw [HNY.out], BV.out⟩⟩
            first | exact Q | ((repeat apply Exists.intro); exact ⟨Q, rfl⟩)
          case measure => have := HKX.out; simp [intOf]; omega
    · have hkn : k = nk := by have := HKN.out; omega
      subst hkn
      obtain ⟨T, hT⟩ : ∃ T, allIn own (an : Int) k = T := ⟨_, rfl⟩
      rw [hT]
      have HT := Lib.hid hT
      have hlo2 := HSP.out.hs
      have HFL : Hid ((LL0 own).flatten.length ≤ 5000) := by have := HSH.out.flat; have := HSH.out.sum; unfold Hid; omega
      have CC := Lib.hid (clone_any lo hi p rb own (LL0 own).flatten wr HSP.out HSH.out.few HFL.out)
      have HST := Lib.hid (HST6.out.below HB.out)
      have HBW : Hid (Below w.heap.size w wr) := HB6.out.trans (HB.out.mono HB6.out.size)
      clear hlt hT HQ6 HSP6 HST6 HRS6 HQ HRS HB HKN
      go_wp2_with fail
      refine CC.out.mono ?_
      rintro e W7 ⟨⟨p', rb', rfl, hsp'⟩, b7⟩
      obtain ⟨lo2, hl2⟩ : ∃ lo2, wr.heap.size = lo2 := ⟨_, rfl⟩
      obtain ⟨hi2, hh2⟩ : ∃ hi2, W7.heap.size = hi2 := ⟨_, rfl⟩
      have HSW : Hid (SP lo2 hi2 W7 p' rb' own (LL0 own).flatten) := by rw [← hl2, ← hh2]; exact hsp'
      have HLO2 : Hid (hi ≤ lo2) := by rw [← hl2]; exact hlo2
      have HSP7 := Lib.hid (HSP.out.below b7)
      have HB7 : Hid (Below w.heap.size w W7) := HBW.out.trans (b7.mono HBW.out.size)
      have CF := Lib.hid (fill_any lo hi p rb own (LL0 own) ms (.slice Au k cu) (an : Int) W7 HSP7.out HSH.out (by rw [HTL.out]; exact (HVK.out rb HRBW.out.1).below HB7.out) HUS.out (by rw [HTL.out]; have := HNK.out; omega) (by have := HAN.out; unfold U32; omega))
      have hiso := fillGo_isSome (l := own) (ns := ms) (a := (an : Int)) (LL := LL0 own)
      rw [HTL.out, HT.out] at hiso
      clear hsp' b7 hl2 hh2 hlo2 HSP HST HBW CC
      rcases hF : fillGo own (an : Int) ms (LL0 own) with _ | M
      · have hfl : flV (an : Int) own ms (LL0 own) = (LL0 own, 2) := by unfold flV; rw [hF]
        rw [hfl] at CF
        dsimp only at CF
        rw [hF] at hiso
        have hTf : T = false := hiso.symm
        subst hTf
        clear hfl hF hiso
        go_wp2_with fail
        refine CF.out.mono ?_
        rintro e W8 ⟨rfl, hsp8, hp8⟩
        have HSW8 := Lib.hid (HSW.out.past hp8 (by have := HRBW.out; have := HLO2.out; omega))
        have HB8 : Hid (Below w.heap.size w W8) := HB7.out.trans (hp8.below HRBW.out.1 HB7.out.size)
        have CS := Lib.hid (same_any lo hi p rb lo2 hi2 p' rb' own _ _ W8 hsp8 HSW8.out HSH.out.few HFL.out)
        have hdt : decide ((LL0 own).flatten = (LL0 own).flatten) = true := by simp
        rw [hdt] at CS
        clear hsp8 hp8 CF hdt
        go_wp2_with fail
        refine CS.out.mono ?_
        rintro e W9 ⟨rfl, b9⟩
        have HB9 : Hid (Below w.heap.size w W9) := HB8.out.trans (b9.mono HB8.out.size)
        clear b9 CS
        go_wp2_with fail
        go_ret
        exact ⟨rfl, HB9.out⟩
      · have hfl : flV (an : Int) own ms (LL0 own) = (M, 0) := by unfold flV; rw [hF]
        rw [hfl] at CF
        dsimp only at CF
        rw [hF] at hiso
        have hTt : T = true := hiso.symm
        subst hTt
        have HV := Lib.hid (fillGo_val HSH.out HUS.out hF)
        have HSHM : Hid (Sh own M) := fillGo_sh HSH.out HUS.out hF
        clear hfl hF hiso
        go_wp2_with fail
        refine CF.out.mono ?_
        rintro e W8 ⟨rfl, hsp8, hp8⟩
        have HSW8 := Lib.hid (HSW.out.past hp8 (by have := HRBW.out; have := HLO2.out; omega))
        have HB8 : Hid (Below w.heap.size w W8) := HB7.out.trans (hp8.below HRBW.out.1 HB7.out.size)
        have HSP8 := Lib.hid hsp8
        clear hsp8 hp8 CF HSW HSP7 HB7
        go_wp2_with fail
        go_loopw [17] (fun v wr => Fi2Rel W8 v wr) (fun v => fun _ => 110 - (intOf v).toNat)
        case atStart => exact ⟨⟨0, Nat.zero_le _, rfl, Below.refl _ _⟩⟩
        case round =>
          obtain ⟨⟨q, hq1, rfl, hb⟩⟩ := hrel
          have HQN := Lib.hid hq1
          have HSP := Lib.hid (HSP8.out.below hb)
          have HSW := Lib.hid (HSW8.out.below hb)
          have HB := Lib.hid hb
          have HBW : Hid (Below w.heap.size w wr) := HB8.out.trans (hb.mono HB8.out.size)
          clear hq1 hb
          by_cases hlt : q < 110
          · have hkI : (q : Int) < 110 := by omega
            have HQX : Hid (q < 110) := hlt
            have hwq : IntKind.u32.wrap ((q : Int) + 1) = (q : Int) + 1 := by rw [IntKind.wrap_u32]; omega
            have hwk : IntKind.u32.wrap (k : Int) = (k : Int) := by have := HNK.out; rw [IntKind.wrap_u32]; omega
            have hwak : IntKind.u32.wrap ((an : Int) + (k : Int)) = (an : Int) + (k : Int) := by have := HNK.out; have := HAN.out; rw [IntKind.wrap_u32]; omega
            have hqu : U32 (q : Int) := by unfold U32; omega
            have CL := Lib.hid (load_any lo hi p rb own M (q : Int) wr HSP.out HSHM.out hqu)
            have CM := Lib.hid fun (W : World) (hb : Below wr.heap.size wr W) => load_any lo2 hi2 p' rb' own (LL0 own) (q : Int) W (HSW.out.below hb) HSH.out hqu
            have hv := HV.out (q : Int)
            rw [HTL.out] at hv
            clear hlt hqu
            by_cases hge : an ≤ q
            · have hgeI : (an : Int) ≤ (q : Int) := by omega
              by_cases hin : q < an + k
              · have hinI : (q : Int) < (an : Int) + (k : Int) := by omega
                obtain ⟨j, hj⟩ : ∃ j, q = an + j := ⟨q - an, by omega⟩
                have hjk : j < k := by omega
                have hjI : (j : Int) < (k : Int) := by omega
                have hj0 : (0 : Int) ≤ (j : Int) := by omega
                have hwj : IntKind.u32.wrap ((q : Int) - (an : Int)) = (j : Int) := by rw [IntKind.wrap_u32]; omega
                rw [if_pos ⟨hgeI, hinI⟩] at hv
                have hjn : ((q : Int) - (an : Int)).toNat = j := by omega
                rw [hjn] at hv
                have hys : ms[j]? = some (ms[j]'(by rw [HTL.out]; exact hjk)) := List.getElem?_eq_getElem _
                obtain ⟨y, hy⟩ : ∃ y, ms[j]'(by rw [HTL.out]; exact hjk) = y := ⟨_, rfl⟩
                rw [hy] at hys
                rw [hys] at hv
                dsimp only [Option.getD] at hv
                rw [hv] at CL
                dsimp only at CL
                have hat : (atL (q : Int) own 0).isSome = true := by
                  have h1 := HT.out
                  unfold allIn at h1
                  rw [List.all_eq_true] at h1
                  have h2 := h1 j (by simpa using hjk)
                  have e : (an : Int) + (j : Int) = (q : Int) := by omega
                  rw [e] at h2; exact h2
                obtain ⟨u, hu0⟩ : ∃ u, ldV (q : Int) own (LL0 own) = (u, 0) := by
                  obtain ⟨z, hz⟩ := Option.isSome_iff_exists.1 hat
                  obtain ⟨z1, z2⟩ := z
                  exact ⟨_, by unfold ldV; rw [hz]⟩
                rw [hu0] at CM
                dsimp only at CM
                obtain ⟨hm1, b2, off2, e2, hbl2, hg2, hc2⟩ := ((HVK.out rb HRBW.out.1).below HBW.out).at_ hjk
                clear hm1
                subst e2
                have d0 : Hid (wr.cell? ⟨b2, off2 + j, none⟩ = some (.int .u32 y)) := hc2 j _ (by simp [CU, hys])
                have HBL2 : Hid (b2 < wr.heap.size) := hbl2
                clear hge hin hj hjk hv hjn hys hy hat hu0 hbl2 hg2 hc2
                go_wp2_with fail
                refine CL.out.mono ?_
                rintro e V1 ⟨rfl, bv1⟩
                clear CL
                go_wp2_with fail
                refine (CM.out V1 bv1).mono ?_
                rintro e V2 ⟨rfl, bv2⟩
                have BV : Hid (Below wr.heap.size wr V2) := bv1.trans (bv2.mono bv1.size)
                have d0' := cell_later BV.out d0.out
                clear CM bv1 bv2
                go_wp2_with fail
                go_roundw
                case rel =>
                  have Q : Fi2Rel W8 (.int .u32 ((q : Int) + 1)) V2 := ⟨⟨q + 1, HQX.out, by simp, HB.out.trans (BV.out.mono HB.out.size)⟩⟩
                  first | exact Q | ((repeat apply Exists.intro); exact ⟨Q, rfl⟩)
                case measure => have := HQX.out; simp [intOf]; omega
              · have hinI : ¬ ((q : Int) < (an : Int) + (k : Int)) := by omega
                have hinJ : (an : Int) + (k : Int) ≤ (q : Int) := by omega
                rw [if_neg (fun h => hinI h.2)] at hv
                obtain ⟨⟨u, g⟩, hu0⟩ : ∃ u, ldV (q : Int) own (LL0 own) = u := ⟨_, rfl⟩
                rw [hu0] at hv CM
                rw [hv] at CL
                dsimp only at CL CM
                clear hge hin hinI hv hu0
                go_wp2_with fail
                refine CL.out.mono ?_
                rintro e V1 ⟨rfl, bv1⟩
                clear CL
                go_wp2_with fail
                refine (CM.out V1 bv1).mono ?_
                rintro e V2 ⟨rfl, bv2⟩
                have BV : Hid (Below wr.heap.size wr V2) := bv1.trans (bv2.mono bv1.size)
                clear CM bv1 bv2
                go_wp2_with fail
                go_roundw
                case rel =>
                  have Q : Fi2Rel W8 (.int .u32 ((q : Int) + 1)) V2 := ⟨⟨q + 1, HQX.out, by simp, HB.out.trans (BV.out.mono HB.out.size)⟩⟩
                  first | exact Q | ((repeat apply Exists.intro); exact ⟨Q, rfl⟩)
                case measure => have := HQX.out; simp [intOf]; omega
            · have hgeI : ¬ ((an : Int) ≤ (q : Int)) := by omega
              have hgeJ : (q : Int) < (an : Int) := by omega
              rw [if_neg (fun h => hgeI h.1)] at hv
              obtain ⟨⟨u, g⟩, hu0⟩ : ∃ u, ldV (q : Int) own (LL0 own) = u := ⟨_, rfl⟩
              rw [hu0] at hv CM
              rw [hv] at CL
              dsimp only at CL CM
              clear hge hgeI hv hu0
              go_wp2_with fail
              refine CL.out.mono ?_
              rintro e V1 ⟨rfl, bv1⟩
              clear CL
              go_wp2_with fail
              refine (CM.out V1 bv1).mono ?_
              rintro e V2 ⟨rfl, bv2⟩
              have BV : Hid (Below wr.heap.size wr V2) := bv1.trans (bv2.mono bv1.size)
              clear CM bv1 bv2
              go_wp2_with fail
              go_roundw
              case rel =>
                have Q : Fi2Rel W8 (.int .u32 ((q : Int) + 1)) V2 := ⟨⟨q + 1, HQX.out, by simp, HB.out.trans (BV.out.mono HB.out.size)⟩⟩
                first | exact Q | ((repeat apply Exists.intro); exact ⟨Q, rfl⟩)
              case measure => have := HQX.out; simp [intOf]; omega
          · have hqn : q = 110 := by have := HQN.out; omega
            subst hqn
            clear hlt
            go_wp2_with fail
            go_ret
            exact ⟨rfl, HBW.out⟩
end Go.Proofs.Ytliggejkpmlgfaa
