/-
  The walk of SpaceActs. Each statement bears its own conditions.
-/
import Derived.Test.YtliggejkpmlgfaaSpY
namespace Go.Proofs.Ytliggejkpmlgfaa
open Go.RowKit
set_option linter.unusedVariables false
set_option linter.unusedSimpArgs false
theorem own_cap {w : World} {B k n m c : Nat} {e : TypeId} {A : Option Addr} {xs : List Value} (h : w.ownsRow B e k (.slice A m c) n xs) : m ≤ c := by
  rcases h.2 with ⟨h5, _⟩ | ⟨g', cap', cur, hv, _, _, h6, _⟩
  · injection h5 with e1 e2 e3; omega
  · injection hv with e1 e2 e3; omega
structure AcRel (n b8 lo hi p rb : Nat) (own : List MA) (va : Value) (w : World) (v : Value) (wr : World) : Prop where
  ex : ∃ (k : Nat) (A : Option Addr) (m c : Nat) (LL : List (List Int)), k ≤ 100 ∧ k ≤ n ∧ v = .int .i64 (k : Int) ∧ wr.heap[b8]? = some (.cells #[va, .slice A m c] 31 (0, 0)) ∧ SP lo hi wr p rb own LL.flatten ∧ RS rb wr va (.slice A m c) own LL ∧ RS b8 wr va (.slice A m c) own LL ∧ Sh own LL ∧ Below w.heap.size w wr
set_option maxRecDepth 100000 in
set_option maxHeartbeats 16000000 in
theorem acts_walk (A : Option Addr) (n c : Nat) (Ao : Option Addr) (no co : Nat) (l : List MA) (ops : List MO) (w : World) (hl : Row w 5 RAq (.slice A n c) l) (ho : Row w 5 (RO w) (.slice Ao no co) ops) :
    Calls Try.prog 3 #[.slice A n c, .slice Ao no co] w fun e w' => e = .returned (.bool true) ∧ Below w.heap.size w w' := by
  have HL : Hid (St w.heap.size w 5 (.slice A n c) l.length (CA l)) := by
    obtain ⟨h1, _, h2⟩ := row_areas hl
    unfold Hid; rw [h1]; exact h2 _ (Nat.le_refl _)
  have HO := Lib.hid ho
  clear hl ho
  go_enter Try.func3, Try.ntmps3
  go_wp2_with fail
  refine (fix_any w.heap.size _ l w HL.out).mono ?_
  rintro e W1 ⟨⟨own, A1, c1, a1, rfl, hown1, ho1⟩, b1⟩
  obtain ⟨n1, hn1⟩ : ∃ n1, own.length = n1 := ⟨_, rfl⟩
  rw [hn1] at ho1 ⊢
  have HOWN := Lib.hid hown1
  have HN1 := Lib.hid hn1
  have HO1 := Lib.hid ho1
  have HB1 := Lib.hid b1
  have HN6 : Hid (n1 ≤ 6) := by have := hown1.few; unfold Hid; omega
  have hc1 : n1 ≤ c1 := own_cap ho1
  have HI64 : Hid (∀ x ∈ own, I64 x.frm ∧ I64 x.wds) := fun x hx => by have := hown1.each x hx; have := hown1.end_; have := hown1.few; unfold I64; omega
  clear hown1 hn1 ho1 b1
  go_wp2_with fail
  refine (new_any W1.heap.size A1 n1 c1 own W1 (St.of_own' HO1.out (fun k hk => by have := (HO1.out.lt k hk).2; omega)) HN1.out hc1 HI64.out (by have := HN6.out; omega)).mono ?_
  rintro e W2 ⟨_, hok, b2⟩
  obtain ⟨p, rb, rfl, hsp⟩ := hok HOWN.out.ok
  obtain ⟨lo, hlo⟩ : ∃ lo, W1.heap.size = lo := ⟨_, rfl⟩
  have HSH : Hid (Sh own (LL0 own)) := LL0_sh HOWN.out.ok
  have hzz : zeros own = (LL0 own).flatten := (LL0_flat HSH.out.good).symm
  rw [hzz] at hsp
  have HLO : Hid (w.heap.size ≤ lo) := by rw [← hlo]; exact HB1.out.size
  have HB2 : Hid (Below w.heap.size w W2) := HB1.out.trans (b2.mono HB1.out.size)
  have HST2 : Hid (St rb W2 5 (.slice A1 n1 c1) n1 (CA own)) := by
    have hrb := hsp.hr.1
    exact (St.of_own' HO1.out (fun k hk => by have := (HO1.out.lt k hk).2; omega)).below b2
  rw [hlo] at hsp
  obtain ⟨hi, hhi⟩ : ∃ hi, W2.heap.size = hi := ⟨_, rfl⟩
  have hhi2 := hsp.hs
  have HSP2 : Hid (SP lo hi W2 p rb own (LL0 own).flatten) := by rw [← hhi]; exact hsp
  have he : ∀ w : World, (binOp .eql 25 (.pointer (some ⟨p, 0, none⟩)) (.pointer none)).run Try.prog w = .ok (.bool false) w := fun _ => rfl
  have HHI : Hid (hi = W2.heap.size) := hhi.symm
  clear hok hsp b2 hlo hhi hzz hhi2 HO1
  go_wp2_with fail
  refine (rnew_any rb A1 n1 c1 own W2 HST2.out HN1.out HI64.out (by have := HN6.out; omega)).mono ?_
  rintro e W3 ⟨_, hok, b3⟩
  obtain ⟨va, vl, rfl, hrs⟩ := hok HOWN.out.ok
  have hrs1 := hrs rb (by have := HSP2.out.hr.2; have := HHI.out; omega)
  have HALL := Lib.hid hrs
  obtain ⟨A2, c2, A3, c3, hva, hvl⟩ := hrs1.form
  obtain ⟨m3, hm3⟩ : ∃ m3, (LL0 own).length = m3 := ⟨_, rfl⟩
  rw [HN1.out] at hva
  rw [hm3] at hvl
  subst hva hvl
  have HRS3 := Lib.hid hrs1
  have HSP3 := Lib.hid (HSP2.out.below b3)
  have HST3 := Lib.hid (HST2.out.below b3)
  have HB3 : Hid (Below w.heap.size w W3) := HB2.out.trans (b3.mono HB2.out.size)
  have HSZ3 : Hid (hi ≤ W3.heap.size) := by rw [HHI.out]; exact b3.size
  clear hok hrs hrs1 b3 hm3
  go_wp2_with fail
  obtain ⟨W4, hW4⟩ : ∃ W4, W3.alloc (.cells #[.slice A2 n1 c2, .slice A3 m3 c3] 31) = W4 := ⟨_, rfl⟩
  simp only [hW4]
  have b34 : Below W3.heap.size W3 W4 := by rw [← hW4]; exact (Below.refl _ _).alloc (Nat.le_refl _) _
  obtain ⟨b8, hb8⟩ : ∃ b8, W3.heap.size = b8 := ⟨_, rfl⟩
  have HQ4 : Hid (W4.heap[b8]? = some (.cells #[.slice A2 n1 c2, .slice A3 m3 c3] 31 (0, 0))) := by rw [← hW4, ← hb8]; exact heap_alloc_new _ _
  have HB8 : Hid (hi ≤ b8) := by rw [← hb8]; exact HSZ3.out
  have HSP4 := Lib.hid (HSP3.out.below b34)
  have HRS4 := Lib.hid (HRS3.out.below b34)
  have HRT4 : Hid (RS b8 W4 (.slice A2 n1 c2) (.slice A3 m3 c3) own (LL0 own)) := (HRS3.out.fresh (by rw [← hb8]; exact Nat.le_refl _)).below b34
  have HST4 := Lib.hid (HST3.out.below b34)
  have HB4 : Hid (Below w.heap.size w W4) := HB3.out.trans (b34.mono HB3.out.size)
  try simp only [hb8]
  clear hW4 b34 hb8
  refine (told_any W4).mono ?_
  rintro e W5 ⟨rfl, b5⟩
  have HQ5 := Lib.hid (heap_keep b5 HQ4.out)
  have HSP5 := Lib.hid (HSP4.out.below b5)
  have HRS5 := Lib.hid (HRS4.out.below b5)
  have HRT5 := Lib.hid (HRT4.out.below b5)
  have HST5 := Lib.hid (HST4.out.below b5)
  have HB5 : Hid (Below w.heap.size w W5) := HB4.out.trans (b5.mono HB4.out.size)
  clear b5
  go_wp2_with fail
  refine (areas_any lo hi p rb own _ W5 HSP5.out HSH.out.few).mono ?_
  rintro e W6 ⟨⟨r6, rfl, hr6⟩, b6⟩
  obtain ⟨A6, c6, rfl⟩ := slice_form hr6
  have HR6 : Hid (St W6.heap.size W6 5 (.slice A6 own.length c6) own.length (CA own)) := St.of_own' hr6 (fun k hk => by have := (hr6.lt k hk).2; omega)
  have HQ6 := Lib.hid (heap_keep b6 HQ5.out)
  have HSP6 := Lib.hid (HSP5.out.below b6)
  have HRS6 := Lib.hid (HRS5.out.below b6)
  have HRT6 := Lib.hid (HRT5.out.below b6)
  have HST6 : Hid (St rb W6 5 (.slice A1 n1 c1) own.length (CA own)) := by unfold Hid; rw [HN1.out]; exact HST5.out.below b6
  have HB6 : Hid (Below w.heap.size w W6) := HB5.out.trans (b6.mono HB5.out.size)
  clear b6 hr6
  go_wp2_with fail
  refine (rsameA_same _ _ _ _ own W6 HR6.out HST6.out (by have := HSH.out.few; omega)).mono ?_
  rintro e W7 ⟨rfl, b7⟩
  have HQ7 := Lib.hid (heap_keep b7 HQ6.out)
  have HSP7 := Lib.hid (HSP6.out.below b7)
  have HRS7 := Lib.hid (HRS6.out.below b7)
  have HRT7 := Lib.hid (HRT6.out.below b7)
  have HB7 : Hid (Below w.heap.size w W7) := HB6.out.trans (b7.mono HB6.out.size)
  have HRBW : Hid (w.heap.size ≤ rb ∧ rb < hi) := by have := HSP7.out.hr; have := HLO.out; unfold Hid; omega
  clear b7 HR6 HST6
  go_wp2_with fail
  go_loopw [10] (fun v wr => AcRel no b8 lo hi p rb own (.slice A2 n1 c2) w v wr) (fun v => fun _ => 100 - (intOf v).toNat)
  case atStart => exact ⟨⟨0, A3, m3, c3, LL0 own, Nat.zero_le _, Nat.zero_le _, rfl, HQ7.out, HSP7.out, HRS7.out, HRT7.out, HSH.out, HB7.out⟩⟩
  case round =>
    clear HQ4 HQ5 HQ6 HQ7 HSP2 HSP3 HSP4 HSP5 HSP6 HSP7 HRS3 HRS4 HRS5 HRS6 HRS7 HRT4 HRT5 HRT6 HRT7 HST2 HST3 HST4 HST5 HB1 HB2 HB3 HB4 HB5 HB6 HB7 HSH HALL HSZ3 HHI
    obtain ⟨⟨k, Ak, mk, ck, LL, hk, hkn, rfl, hq, hsp, hrs, hrt, hsh, hb⟩⟩ := hrel
    have HK := Lib.hid hk
    have HKN := Lib.hid hkn
    have HQ := Lib.hid hq
    have HSP := Lib.hid hsp
    have HRS := Lib.hid hrs
    have HRT := Lib.hid hrt
    have HSH := Lib.hid hsh
    have HB := Lib.hid hb
    clear hk hkn hq hsp hrs hrt hsh hb
    by_cases hlt : k < no
    · have hkI : (k : Int) < (no : Int) := by omega
      have hkIb : decide ((k : Int) < (no : Int)) = true := by simpa using hkI
      by_cases hl100 : k < 100
      · have hk100 : (k : Int) < 100 := by omega
        have HX : Hid (k < no) := hlt
        have HX1 : Hid (k < 100) := hl100
        obtain ⟨hnx, b, off, x, cs, rfl, hbl, hx, hR, hcl, hc⟩ := HO.out.at_ k hlt
        clear hnx hcl
        obtain ⟨a2, q2, rfl, hu1, hu2, hcap, hus, hstx⟩ := hR
        obtain ⟨xk, xa, xw, xkeep, xs⟩ := x
        dsimp only at hu1 hu2 hcap hus hstx hc
        obtain ⟨xn, hxn⟩ : ∃ xn, xs.length = xn := ⟨_, rfl⟩
        rw [hxn] at hc hcap hstx
        have HBL : Hid (b < w.heap.size) := hbl
        have d0 : wr.cell? ⟨b, off + k * 5, none⟩ = some (.int .i64 xk) := cell_later HB.out (hc 0 _ rfl)
        have d1 : wr.cell? ⟨b, off + k * 5 + 1, none⟩ = some (.int .u32 xa) := cell_later HB.out (hc 1 _ rfl)
        have d2 : wr.cell? ⟨b, off + k * 5 + 2, none⟩ = some (.int .u32 xw) := cell_later HB.out (hc 2 _ rfl)
        have d3 : wr.cell? ⟨b, off + k * 5 + 3, none⟩ = some (.slice a2 xn q2) := cell_later HB.out (hc 3 _ rfl)
        have d4 : wr.cell? ⟨b, off + k * 5 + 4, none⟩ = some (.bool xkeep) := cell_later HB.out (hc 4 _ rfl)
        have HSX := Lib.hid (hstx rb HRBW.out.1)
        have HXN := Lib.hid hxn
        have HU1 := Lib.hid hu1
        have HU2 := Lib.hid hu2
        have HCAP : Hid (∀ a n c, (Value.slice a2 xn q2) = .slice a n c → n ≤ c) := fun a n c e => by injection e with e1 e2 e3; omega
        have HUS := Lib.hid hus
        have CD := Lib.hid fun (W : World) (hsp : SP lo hi W p rb own LL.flatten) (hrs : RS rb W (.slice A2 n1 c2) (.slice Ak mk ck) own LL) (hbw : Below w.heap.size w W) => do_any lo hi p rb (.slice A2 n1 c2) (.slice Ak mk ck) (.slice a2 xn q2) own LL xk xa xw xkeep xs W hsp hrs HSH.out HU1.out HU2.out (by rw [hxn]; exact HSX.out.below hbw) HCAP.out HUS.out
        have x0 : wr.cell? ⟨b8, 0, none⟩ = some (.slice A2 n1 c2) := by have := (row_cell HQ.out 0).1; simpa using this
        have x1 : wr.cell? ⟨b8, 1, none⟩ = some (.slice Ak mk ck) := by have := (row_cell HQ.out 1).1; simpa using this
        have HCELLS := Lib.hid (And.intro x0 (And.intro x1 (And.intro d0 (And.intro d1 (And.intro d2 (And.intro d3 d4))))))
        clear hc hlt hl100 hbl hx hu1 hu2 hcap hus hstx hxn x0 x1 d0 d1 d2 d3 d4
        go_wp2_with fail
        refine wp_region_held_drew (S := (fun w' => w'.cell? ⟨b8, 0, none⟩ = some (.slice A2 n1 c2) ∧ w'.cell? ⟨b8, 1, none⟩ = some (.slice Ak mk ck) ∧ w'.cell? ⟨b, off + k * 5, none⟩ = some (.int .i64 xk) ∧ w'.cell? ⟨b, off + k * 5 + 1, none⟩ = some (.int .u32 xa) ∧ w'.cell? ⟨b, off + k * 5 + 2, none⟩ = some (.int .u32 xw) ∧ w'.cell? ⟨b, off + k * 5 + 3, none⟩ = some (.slice a2 xn q2) ∧ w'.cell? ⟨b, off + k * 5 + 4, none⟩ = some (.bool xkeep))) (by kernel_rfl) ?_ (fun hHeld => ?_)
        · exact HCELLS.out
        refine takeD (i := 0) (d := some 57) (v := ?_) _ rfl rfl (by kernel_rfl) (by kernel_rfl) (by kernel_rfl) (fun _ _ _ h => h) (by rfl) ?_ (by assumption) ?_
        rotate_left
        · (intro w hSw; (try dsimp only at hSw); go_simp) <;> with_reducible rfl
        try simp only [Act.put, List.setIfInBounds_toArray, List.set_cons_zero, List.set_cons_succ]
        refine takeD (i := 1) (d := some 58) (v := ?_) _ rfl rfl (by kernel_rfl) (by kernel_rfl) (by kernel_rfl) (fun _ _ _ h => h) (by rfl) ?_ (by assumption) ?_
        rotate_left
        · (intro w hSw; (try dsimp only at hSw); go_simp) <;> with_reducible rfl
        try simp only [Act.put, List.setIfInBounds_toArray, List.set_cons_zero, List.set_cons_succ]
        refine takeD (i := 2) (d := some 59) (v := ?_) _ rfl rfl (by kernel_rfl) (by kernel_rfl) (by kernel_rfl) (fun _ _ _ h => h) (by rfl) ?_ (by assumption) ?_
        rotate_left
        · (intro w hSw; (try dsimp only at hSw); go_simp) <;> with_reducible rfl
        try simp only [Act.put, List.setIfInBounds_toArray, List.set_cons_zero, List.set_cons_succ]
        refine takeD (i := 3) (d := some 60) (v := ?_) _ rfl rfl (by kernel_rfl) (by kernel_rfl) (by kernel_rfl) (fun _ _ _ h => h) (by rfl) ?_ (by assumption) ?_
        rotate_left
        · (intro w hSw; (try dsimp only at hSw); go_simp) <;> with_reducible rfl
        try simp only [Act.put, List.setIfInBounds_toArray, List.set_cons_zero, List.set_cons_succ]
        refine takeD (i := 4) (d := some 61) (v := ?_) _ rfl rfl (by kernel_rfl) (by kernel_rfl) (by kernel_rfl) (fun _ _ _ h => h) (by rfl) ?_ (by assumption) ?_
        rotate_left
        · (intro w hSw; (try dsimp only at hSw); go_simp) <;> with_reducible rfl
        try simp only [Act.put, List.setIfInBounds_toArray, List.set_cons_zero, List.set_cons_succ]
        refine takeD (i := 5) (d := some 62) (v := ?_) _ rfl rfl (by kernel_rfl) (by kernel_rfl) (by kernel_rfl) (fun _ _ _ h => h) (by rfl) ?_ (by assumption) ?_
        rotate_left
        · (intro w hSw; (try dsimp only at hSw); go_simp) <;> with_reducible rfl
        try simp only [Act.put, List.setIfInBounds_toArray, List.set_cons_zero, List.set_cons_succ]
        refine wpAnyH_ready (rs := [6, 10]) (by kernel_rfl) (by simp) ?_
        refine AllReadyH.cons rfl (fun K hK => ?_) (AllReadyH.cons rfl (fun K hK => ?_) AllReadyH.nil)
        · go_simp
          go_at_call 15
          refine (CD.out (wr.drew) (HSP.out.keep HSP.out.hs (fun _ _ _ => rfl)) (HRS.out.below (below_drewN (Below.refl _ _) 1)) (below_drewN HB.out 1)).mono ?_
          rintro e W3 ⟨vl', LL', rfl, hsp3, htn3, hsh3, hp3'⟩
          have hrs3 := htn3 rb (Nat.lt_of_lt_of_le HSP.out.hr.2 HSP.out.hs) (HRS.out.below (below_drewN (Below.refl _ _) 1))
          have hrt3 := htn3 b8 (Array.getElem?_eq_some_iff.1 HQ.out).1 (HRT.out.below (below_drewN (Below.refl _ _) 1))
          have hp3 : Past rb wr W3 := (Past.refl rb wr).drew.trans hp3'
          obtain ⟨A5, c5, rfl⟩ : ∃ A5 c5, vl' = .slice A5 LL'.length c5 := by
            obtain ⟨_, _, A5, c5, _, e⟩ := hrs3.form
            exact ⟨A5, c5, e⟩
          obtain ⟨m5, hm5⟩ : ∃ m5, LL'.length = m5 := ⟨_, rfl⟩
          rw [hm5] at hrs3 hrt3 htn3 ⊢
          have HRT3 := Lib.hid hrt3
          have HSP3 := Lib.hid hsp3
          have HRS3 := Lib.hid hrs3
          have HSH3 := Lib.hid hsh3
          have hrb := HRBW.out
          have hb8 := HB8.out
          have hbl := HBL.out
          have HB3 : Hid (Below w.heap.size w W3) := HB.out.trans (hp3.below (by omega) HB.out.size)
          have HQ3 := Lib.hid (hp_keep hp3 (by omega) HQ.out)
          have hlb := Array.getElem?_eq_some_iff.1 HQ.out |>.1
          have hlw := HB.out.size
          try go_wp2_with fail
          refine hK.out _ _ ⟨cell_past hp3 (by omega) (by omega) hHeld.1, cell_past hp3 (by omega) (by omega) hHeld.2.1, cell_past hp3 (by omega) (by omega) hHeld.2.2.1, cell_past hp3 (by omega) (by omega) hHeld.2.2.2.1, cell_past hp3 (by omega) (by omega) hHeld.2.2.2.2.1, cell_past hp3 (by omega) (by omega) hHeld.2.2.2.2.2.1, cell_past hp3 (by omega) (by omega) hHeld.2.2.2.2.2.2⟩ (fun hHeld => ?_)
          have HC3 := Lib.hid hHeld
          clear hK K hrb hb8 hbl hp3 hp3' hsp3 hrs3 hrt3 htn3 hsh3 hm5 hlb hlw
          try simp only [Act.put, List.setIfInBounds_toArray, List.set_cons_zero, List.set_cons_succ]
          refine takeD (i := 7) (d := some 56) (v := ?_) _ rfl rfl (by kernel_rfl) (by kernel_rfl) (by kernel_rfl) (fun _ _ _ h => h) (by rfl) ?_ (by assumption) ?_
          rotate_left
          · (intro w hSw; (try dsimp only at hSw); go_simp) <;> with_reducible rfl
          try simp only [Act.put, List.setIfInBounds_toArray, List.set_cons_zero, List.set_cons_succ]
          refine takeD (i := 8) (d := some 64) (v := ?_) _ rfl rfl (by kernel_rfl) (by kernel_rfl) (by kernel_rfl) (fun _ _ _ h => h) (by rfl) ?_ (by assumption) ?_
          rotate_left
          · (intro w hSw; (try dsimp only at hSw); go_simp) <;> with_reducible rfl
          try simp only [Act.put, List.setIfInBounds_toArray, List.set_cons_zero, List.set_cons_succ]
          refine takeD (i := 9) (d := some 65) (v := ?_) _ rfl rfl (by kernel_rfl) (by kernel_rfl) (by kernel_rfl) (fun _ _ _ h => h) (by rfl) ?_ (by assumption) ?_
          rotate_left
          · (intro w hSw; (try dsimp only at hSw); go_simp) <;> with_reducible rfl
          try simp only [Act.put, List.setIfInBounds_toArray, List.set_cons_zero, List.set_cons_succ]
          refine wpAnyH_ready (rs := [10]) (by kernel_rfl) (by simp) ?_
          refine AllReadyH.cons rfl (fun K hK => ?_) AllReadyH.nil
          go_simp
          refine hK.out _ _ ⟨cell_al _ hHeld.1, cell_al _ hHeld.2.1, cell_al _ hHeld.2.2.1, cell_al _ hHeld.2.2.2.1, cell_al _ hHeld.2.2.2.2.1, cell_al _ hHeld.2.2.2.2.2.1, cell_al _ hHeld.2.2.2.2.2.2⟩ (fun hHeld => ?_)
          clear hK K
          try simp only [Act.put, List.setIfInBounds_toArray, List.set_cons_zero, List.set_cons_succ]
          refine wpAnyH_ready (rs := [11]) (by kernel_rfl) (by simp) ?_
          refine AllReadyH.cons rfl (fun K hK => ?_) AllReadyH.nil
          go_simp
          obtain ⟨W9, hW9⟩ : ∃ W9, W3.alloc (.cells #[.slice A2 n1 c2, .slice A5 m5 c5] 31) = W9 := ⟨_, rfl⟩
          simp only [hW9]
          have b39 : Below W3.heap.size W3 W9 := by rw [← hW9]; exact (Below.refl _ _).alloc (Nat.le_refl _) _
          obtain ⟨b9, hb9⟩ : ∃ b9, W3.heap.size = b9 := ⟨_, rfl⟩
          have HT9 : Hid (W9.heap[b9]? = some (.cells #[.slice A2 n1 c2, .slice A5 m5 c5] 31 (0, 0))) := by rw [← hW9, ← hb9]; exact heap_alloc_new _ _
          have HQ9 := Lib.hid (heap_keep b39 HQ3.out)
          have HSP9 := Lib.hid (HSP3.out.below b39)
          have HRS9 := Lib.hid (HRS3.out.below b39)
          have HRT9 := Lib.hid (HRT3.out.below b39)
          have HB9 : Hid (Below w.heap.size w W9) := HB3.out.trans (b39.mono HB3.out.size)
          refine hK.out _ _ ⟨cell_later b39 HC3.out.1, cell_later b39 HC3.out.2.1, cell_later b39 HC3.out.2.2.1, cell_later b39 HC3.out.2.2.2.1, cell_later b39 HC3.out.2.2.2.2.1, cell_later b39 HC3.out.2.2.2.2.2.1, cell_later b39 HC3.out.2.2.2.2.2.2⟩ (fun hHeld => ?_)
          try simp only [hb9]
          clear hK K hW9 b39 hb9
          try simp only [Act.put, List.setIfInBounds_toArray, List.set_cons_zero, List.set_cons_succ]
          refine takeD (i := 12) (d := some 12) (v := ?_) _ rfl rfl (by kernel_rfl) (by kernel_rfl) (by kernel_rfl) (fun _ _ _ h => h) (by rfl) ?_ (by assumption) ?_
          rotate_left
          · (intro w hSw; (try dsimp only at hSw); go_simp) <;> with_reducible rfl
          try simp only [Act.put, List.setIfInBounds_toArray, List.set_cons_zero, List.set_cons_succ]
          refine wpAnyH_done (by kernel_rfl) ?_ _
          clear hHeld
          have y0 := (row_cell HT9.out 0).1
          have y1 := (row_cell HT9.out 1).1
          have x0 := (row_cell HQ9.out 0).1
          have x1 := (row_cell HQ9.out 1).1
          have xf0 := (row_cell HQ9.out 0).2
          have xf1 := (row_cell HQ9.out 1).2
          simp at x0 x1 y0 y1
          go_wp2_with fail
          obtain ⟨V, hV⟩ : ∃ V, (W9.setCell ⟨b8, 0, none⟩ (.slice A2 n1 c2)).setCell ⟨b8, 1, none⟩ (.slice A5 m5 c5) = V := ⟨_, rfl⟩
          simp only [hV]
          have PV : Past b8 W9 V := by rw [← hV]; exact ((Past.refl _ _).setCell 0 _).setCell 1 _
          have HQV : Hid (V.heap[b8]? = some (.cells #[.slice A2 n1 c2, .slice A5 m5 c5] 31 (0, 0))) := by
            rw [← hV]
            have h1 := set_at (set_at HQ9.out 0 (.slice A2 n1 c2)) 1 (.slice A5 m5 c5)
            unfold Hid; simpa using h1
          have HSPV := Lib.hid (HSP9.out.past PV (Or.inr HB8.out))
          have HRSV := Lib.hid (HRS9.out.both HRT9.out PV)
          have HRTV := Lib.hid (HRT9.out.past PV)
          have HBV : Hid (Below w.heap.size w V) := HB9.out.trans (PV.below (by have := HRBW.out; have := HB8.out; omega) HB9.out.size)
          have v0 := (row_cell HQV.out 0).1
          have v1 := (row_cell HQV.out 1).1
          simp at v0 v1
          have HV01 := Lib.hid (And.intro v0 v1)
          clear x0 x1 y0 y1 xf0 xf1 hV PV v0 v1
          have hfl := HSH3.out.flat
          have hsm := HSH3.out.sum
          have HFL : Hid (LL'.flatten.length ≤ 5000) := by unfold Hid; omega
          have CW := Lib.hid fun (W : World) (hb : Below V.heap.size V W) => words_any lo hi p rb own LL'.flatten W (HSPV.out.below hb) HFL.out
          have CRW := Lib.hid fun (W : World) (hb : Below V.heap.size V W) => rwords_any rb (.slice A2 n1 c2) (.slice A5 m5 c5) own LL' W (HRSV.out.below hb) (by rw [HSH3.out.len]; exact HSH3.out.few) HFL.out
          obtain ⟨F, hF⟩ : ∃ F, LL'.flatten = F := ⟨_, rfl⟩
          rw [hF] at CW CRW HFL
          clear hfl hsm hF
          refine wp_region_held_drew (S := fun w' => w'.cell? ⟨b8, 0, none⟩ = some (.slice A2 n1 c2) ∧ w'.cell? ⟨b8, 1, none⟩ = some (.slice A5 m5 c5)) (by kernel_rfl) ?_ (fun hHeld => ?_)
          · exact HV01.out
          refine takeD (i := 0) (d := some 67) (v := ?_) _ rfl rfl (by kernel_rfl) (by kernel_rfl) (by kernel_rfl) (fun _ _ _ h => h) (by rfl) ?_ (by assumption) ?_
          rotate_left
          · (intro w hSw; (try dsimp only at hSw); go_simp) <;> with_reducible rfl
          try simp only [Act.put, List.setIfInBounds_toArray, List.set_cons_zero, List.set_cons_succ]
          refine takeD (i := 1) (d := some 68) (v := ?_) _ rfl rfl (by kernel_rfl) (by kernel_rfl) (by kernel_rfl) (fun _ _ _ h => h) (by rfl) ?_ (by assumption) ?_
          rotate_left
          · (intro w hSw; (try dsimp only at hSw); go_simp) <;> with_reducible rfl
          try simp only [Act.put, List.setIfInBounds_toArray, List.set_cons_zero, List.set_cons_succ]
          refine takeD (i := 2) (d := some 69) (v := ?_) _ rfl rfl (by kernel_rfl) (by kernel_rfl) (by kernel_rfl) (fun _ _ _ h => h) (by rfl) ?_ (by assumption) ?_
          rotate_left
          · (intro w hSw; (try dsimp only at hSw); go_simp) <;> with_reducible rfl
          try simp only [Act.put, List.setIfInBounds_toArray, List.set_cons_zero, List.set_cons_succ]
          refine takeD (i := 3) (d := some 70) (v := ?_) _ rfl rfl (by kernel_rfl) (by kernel_rfl) (by kernel_rfl) (fun _ _ _ h => h) (by rfl) ?_ (by assumption) ?_
          rotate_left
          · (intro w hSw; (try dsimp only at hSw); go_simp) <;> with_reducible rfl
          try simp only [Act.put, List.setIfInBounds_toArray, List.set_cons_zero, List.set_cons_succ]
          refine takeD (i := 5) (d := some 72) (v := ?_) _ rfl rfl (by kernel_rfl) (by kernel_rfl) (by kernel_rfl) (fun _ _ _ h => h) (by rfl) ?_ (by assumption) ?_
          rotate_left
          · (intro w hSw; (try dsimp only at hSw); go_simp) <;> with_reducible rfl
          try simp only [Act.put, List.setIfInBounds_toArray, List.set_cons_zero, List.set_cons_succ]
          refine wpAnyH_ready (rs := [4]) (by kernel_rfl) (by simp) ?_
          refine AllReadyH.cons rfl (fun K hK => ?_) AllReadyH.nil
          go_simp
          go_at_call 17
          refine (CW.out _ (below_drewN (Below.refl _ _) 1)).mono ?_
          rintro e V1 ⟨⟨kk, cc, rfl, hw1⟩, bv1'⟩
          have bv1 : Below V.heap.size V V1 := (below_drewN (Below.refl _ _) 1).trans bv1'
          try go_wp2_with fail
          refine hK.out _ _ ⟨cell_later bv1 HV01.out.1, cell_later bv1 HV01.out.2⟩ (fun hHeld => ?_)
          clear hK K
          try simp only [Act.put, List.setIfInBounds_toArray, List.set_cons_zero, List.set_cons_succ]
          refine wpAnyH_ready (rs := [6]) (by kernel_rfl) (by simp) ?_
          refine AllReadyH.cons rfl (fun K hK => ?_) AllReadyH.nil
          go_simp
          go_at_call 18
          refine (CRW.out _ bv1).mono ?_
          rintro e V2 ⟨⟨rr, rfl, hw2⟩, bv2⟩
          obtain ⟨Ar, cr, rfl⟩ := slice_form hw2
          have BV2 : Below V.heap.size V V2 := bv1.trans (bv2.mono bv1.size)
          have hw1' := own_below hw1 bv2
          have CE := Lib.hid (rsame_any V2.heap.size V2.heap.size _ _ F F V2 (St.of_own' hw1' (fun q hq => by have := (hw1'.lt q hq).2; omega)) (St.of_own' hw2 (fun q hq => by have := (hw2.lt q hq).2; omega)) HFL.out)
          try go_wp2_with fail
          refine hK.out _ _ ⟨cell_later BV2 HV01.out.1, cell_later BV2 HV01.out.2⟩ (fun hHeld => ?_)
          clear hK K
          try simp only [Act.put, List.setIfInBounds_toArray, List.set_cons_zero, List.set_cons_succ]
          refine wpAnyH_ready (rs := [7]) (by kernel_rfl) (by simp) ?_
          refine AllReadyH.cons rfl (fun K hK => ?_) AllReadyH.nil
          go_simp
          go_at_call 16
          refine CE.out.mono ?_
          rintro e V3 ⟨rfl, bv3⟩
          have BV3 : Below V.heap.size V V3 := BV2.trans (bv3.mono BV2.size)
          try go_wp2_with fail
          refine hK.out _ _ ⟨cell_later BV3 HV01.out.1, cell_later BV3 HV01.out.2⟩ (fun hHeld => ?_)
          clear hK K hw1' hw1 hw2 CE CW CRW
          try simp only [Act.put, List.setIfInBounds_toArray, List.set_cons_zero, List.set_cons_succ]
          have hdt : decide (F = F) = true := by simp
          refine takeD (i := 8) (d := some 75) (v := ?_) _ rfl rfl (by kernel_rfl) (by kernel_rfl) (by kernel_rfl) (fun _ _ _ h => h) (by rfl) ?_ (by assumption) ?_
          rotate_left
          · (intro w hSw; (try dsimp only at hSw); go_simp) <;> with_reducible rfl
          try simp only [Act.put, List.setIfInBounds_toArray, List.set_cons_zero, List.set_cons_succ]
          refine takeD (i := 9) (d := some 76) (v := ?_) _ rfl rfl (by kernel_rfl) (by kernel_rfl) (by kernel_rfl) (fun _ _ _ h => h) (by rfl) ?_ (by assumption) ?_
          rotate_left
          · (intro w hSw; (try dsimp only at hSw); go_simp) <;> with_reducible rfl
          try simp only [Act.put, List.setIfInBounds_toArray, List.set_cons_zero, List.set_cons_succ]
          refine wpAnyH_done (by kernel_rfl) ?_ _
          have HQZ := Lib.hid (heap_keep BV3 HQV.out)
          have HSPZ := Lib.hid (HSPV.out.below BV3)
          have HRSZ := Lib.hid (HRSV.out.below BV3)
          have HRTZ := Lib.hid (HRTV.out.below BV3)
          have HBZ : Hid (Below w.heap.size w V3) := HBV.out.trans (BV3.mono HBV.out.size)
          clear hHeld bv1 bv1' bv2 bv3 BV2 BV3
          go_wp2_with fail
          go_roundw
          case rel =>
            have Q : AcRel no b8 lo hi p rb own (.slice A2 n1 c2) w (.int .i64 ((k : Int) + 1)) V3 := ⟨⟨k + 1, A5, m5, c5, LL', HX1.out, HX.out, by go_num, HQZ.out, HSPZ.out, HRSZ.out, HRTZ.out, HSH3.out, HBZ.out⟩⟩
            first | exact Q | ((repeat apply Exists.intro); exact ⟨Q, rfl⟩)
          case measure => have := HX1.out; simp [intOf]; omega
        · go_simp
          obtain ⟨W4, hW4⟩ : ∃ W4, (wr.alloc (.cells #[.slice none 0 0, .slice none 0 0] 31)).drew = W4 := ⟨_, rfl⟩
          simp only [hW4]
          have b14 : Below wr.heap.size wr W4 := by rw [← hW4]; exact below_drewN ((Below.refl _ _).alloc (Nat.le_refl _) _) 1
          obtain ⟨b9, hb9⟩ : ∃ b9, wr.heap.size = b9 := ⟨_, rfl⟩
          have HZ4 : Hid (W4.heap[b9]? = some (.cells #[.slice none 0 0, .slice none 0 0] 31 (0, 0))) := by rw [← hW4, ← hb9]; exact heap_alloc_new _ _
          have HBZ : Hid (b8 < b9) := by rw [← hb9]; exact (Array.getElem?_eq_some_iff.1 HQ.out).1
          have HSP4 := Lib.hid (HSP.out.below b14)
          have HRS4 := Lib.hid (HRS.out.below b14)
          have HRT4 := Lib.hid (HRT.out.below b14)
          have HRZ4 : Hid (RS b9 W4 (.slice A2 n1 c2) (.slice Ak mk ck) own LL) := (HRS.out.fresh (by rw [← hb9]; exact Nat.le_refl _)).below b14
          have HQ4 := Lib.hid (heap_keep b14 HQ.out)
          have HB4 : Hid (Below w.heap.size w W4) := HB.out.trans (b14.mono HB.out.size)
          refine hK.out _ _ ⟨cell_later b14 HCELLS.out.1, cell_later b14 HCELLS.out.2.1, cell_later b14 HCELLS.out.2.2.1, cell_later b14 HCELLS.out.2.2.2.1, cell_later b14 HCELLS.out.2.2.2.2.1, cell_later b14 HCELLS.out.2.2.2.2.2.1, cell_later b14 HCELLS.out.2.2.2.2.2.2⟩ (fun hHeld => ?_)
          try simp only [hb9]
          clear hK K hW4 b14 hb9
          try simp only [Act.put, List.setIfInBounds_toArray, List.set_cons_zero, List.set_cons_succ]
          refine wpAnyH_ready (rs := [6]) (by kernel_rfl) (by simp) ?_
          refine AllReadyH.cons rfl (fun K hK => ?_) AllReadyH.nil
          go_simp
          go_at_call 15
          refine (CD.out (W4) HSP4.out HRS4.out HB4.out).mono ?_
          rintro e W3 ⟨vl', LL', rfl, hsp3, htn3, hsh3, hp3'⟩
          have hrs3 := htn3 rb (Nat.lt_of_lt_of_le HSP4.out.hr.2 HSP4.out.hs) HRS4.out
          have hrt3 := htn3 b8 (Array.getElem?_eq_some_iff.1 HQ4.out).1 HRT4.out
          have hp3 : Past rb W4 W3 := hp3'
          obtain ⟨A5, c5, rfl⟩ : ∃ A5 c5, vl' = .slice A5 LL'.length c5 := by
            obtain ⟨_, _, A5, c5, _, e⟩ := hrs3.form
            exact ⟨A5, c5, e⟩
          obtain ⟨m5, hm5⟩ : ∃ m5, LL'.length = m5 := ⟨_, rfl⟩
          rw [hm5] at hrs3 hrt3 htn3 ⊢
          have HRT3 := Lib.hid hrt3
          have HSP3 := Lib.hid hsp3
          have HRS3 := Lib.hid hrs3
          have HSH3 := Lib.hid hsh3
          have hrb := HRBW.out
          have hb8 := HB8.out
          have hbl := HBL.out
          have HB3 : Hid (Below w.heap.size w W3) := HB4.out.trans (hp3.below (by omega) HB4.out.size)
          have HQ3 := Lib.hid (hp_keep hp3 (by omega) HQ4.out)
          have hbz := HBZ.out
          have HZ3 := Lib.hid (hp_keep hp3 (by omega) HZ4.out)
          have hrz3 := htn3 b9 (Array.getElem?_eq_some_iff.1 HZ4.out).1 HRZ4.out
          have HRZ3 := Lib.hid hrz3
          have hlb := Array.getElem?_eq_some_iff.1 HQ4.out |>.1
          have hlw := HB4.out.size
          try go_wp2_with fail
          refine hK.out _ _ ⟨cell_past hp3 (by omega) (by omega) hHeld.1, cell_past hp3 (by omega) (by omega) hHeld.2.1, cell_past hp3 (by omega) (by omega) hHeld.2.2.1, cell_past hp3 (by omega) (by omega) hHeld.2.2.2.1, cell_past hp3 (by omega) (by omega) hHeld.2.2.2.2.1, cell_past hp3 (by omega) (by omega) hHeld.2.2.2.2.2.1, cell_past hp3 (by omega) (by omega) hHeld.2.2.2.2.2.2⟩ (fun hHeld => ?_)
          have HC3 := Lib.hid hHeld
          clear hK K hrb hb8 hbl hp3 hp3' hsp3 hrs3 hrt3 htn3 hsh3 hm5 hlb hlw
          try simp only [Act.put, List.setIfInBounds_toArray, List.set_cons_zero, List.set_cons_succ]
          refine takeD (i := 7) (d := some 56) (v := ?_) _ rfl rfl (by kernel_rfl) (by kernel_rfl) (by kernel_rfl) (fun _ _ _ h => h) (by rfl) ?_ (by assumption) ?_
          rotate_left
          · (intro w hSw; (try dsimp only at hSw); go_simp) <;> with_reducible rfl
          try simp only [Act.put, List.setIfInBounds_toArray, List.set_cons_zero, List.set_cons_succ]
          refine takeD (i := 8) (d := some 64) (v := ?_) _ rfl rfl (by kernel_rfl) (by kernel_rfl) (by kernel_rfl) (fun _ _ _ h => h) (by rfl) ?_ (by assumption) ?_
          rotate_left
          · (intro w hSw; (try dsimp only at hSw); go_simp) <;> with_reducible rfl
          try simp only [Act.put, List.setIfInBounds_toArray, List.set_cons_zero, List.set_cons_succ]
          refine takeD (i := 9) (d := some 65) (v := ?_) _ rfl rfl (by kernel_rfl) (by kernel_rfl) (by kernel_rfl) (fun _ _ _ h => h) (by rfl) ?_ (by assumption) ?_
          rotate_left
          · (intro w hSw; (try dsimp only at hSw); go_simp) <;> with_reducible rfl
          try simp only [Act.put, List.setIfInBounds_toArray, List.set_cons_zero, List.set_cons_succ]
          have z0 := (row_cell HZ3.out 0).1
          have z1 := (row_cell HZ3.out 1).1
          have zf0 := (row_cell HZ3.out 0).2
          have zf1 := (row_cell HZ3.out 1).2
          simp at z0 z1
          refine wpAnyH_ready (rs := [11]) (by kernel_rfl) (by simp) ?_
          refine AllReadyH.cons rfl (fun K hK => ?_) AllReadyH.nil
          go_simp
          obtain ⟨W9, hW9⟩ : ∃ W9, (W3.setCell ⟨b9, 0, none⟩ (.slice A2 n1 c2)).setCell ⟨b9, 1, none⟩ (.slice A5 m5 c5) = W9 := ⟨_, rfl⟩
          simp only [hW9]
          have P9 : Past b9 W3 W9 := by rw [← hW9]; exact ((Past.refl _ _).setCell 0 _).setCell 1 _
          have HT9 : Hid (W9.heap[b9]? = some (.cells #[.slice A2 n1 c2, .slice A5 m5 c5] 31 (0, 0))) := by
            rw [← hW9]
            have h1 := set_at (set_at HZ3.out 0 (.slice A2 n1 c2)) 1 (.slice A5 m5 c5)
            unfold Hid; simpa using h1
          have hbz2 := HBZ.out
          have hb82 := HB8.out
          have hrb2 := HRBW.out
          have hbl2 := HBL.out
          have HQ9 := Lib.hid (hp_keep P9 (by omega) HQ3.out)
          have HSP9 := Lib.hid (HSP3.out.past P9 (Or.inr (by omega)))
          have HRS9 := Lib.hid (HRS3.out.both HRZ3.out P9)
          have HRT9 := Lib.hid (HRT3.out.both HRZ3.out P9)
          have HB9 : Hid (Below w.heap.size w W9) := HB3.out.trans (P9.below (by omega) HB3.out.size)
          have hl8 := (Array.getElem?_eq_some_iff.1 HQ3.out).1
          have hlw := HB3.out.size
          refine hK.out _ _ ⟨cell_past P9 (by omega) (by omega) HC3.out.1, cell_past P9 (by omega) (by omega) HC3.out.2.1, cell_past P9 (by omega) (by omega) HC3.out.2.2.1, cell_past P9 (by omega) (by omega) HC3.out.2.2.2.1, cell_past P9 (by omega) (by omega) HC3.out.2.2.2.2.1, cell_past P9 (by omega) (by omega) HC3.out.2.2.2.2.2.1, cell_past P9 (by omega) (by omega) HC3.out.2.2.2.2.2.2⟩ (fun hHeld => ?_)
          clear hK K hW9 P9 z0 z1 zf0 zf1 hbz2 hb82 hrb2 hbl2 hl8 hlw
          try simp only [Act.put, List.setIfInBounds_toArray, List.set_cons_zero, List.set_cons_succ]
          refine takeD (i := 12) (d := some 12) (v := ?_) _ rfl rfl (by kernel_rfl) (by kernel_rfl) (by kernel_rfl) (fun _ _ _ h => h) (by rfl) ?_ (by assumption) ?_
          rotate_left
          · (intro w hSw; (try dsimp only at hSw); go_simp) <;> with_reducible rfl
          try simp only [Act.put, List.setIfInBounds_toArray, List.set_cons_zero, List.set_cons_succ]
          refine wpAnyH_done (by kernel_rfl) ?_ _
          clear hHeld
          have y0 := (row_cell HT9.out 0).1
          have y1 := (row_cell HT9.out 1).1
          have x0 := (row_cell HQ9.out 0).1
          have x1 := (row_cell HQ9.out 1).1
          have xf0 := (row_cell HQ9.out 0).2
          have xf1 := (row_cell HQ9.out 1).2
          simp at x0 x1 y0 y1
          go_wp2_with fail
          obtain ⟨V, hV⟩ : ∃ V, (W9.setCell ⟨b8, 0, none⟩ (.slice A2 n1 c2)).setCell ⟨b8, 1, none⟩ (.slice A5 m5 c5) = V := ⟨_, rfl⟩
          simp only [hV]
          have PV : Past b8 W9 V := by rw [← hV]; exact ((Past.refl _ _).setCell 0 _).setCell 1 _
          have HQV : Hid (V.heap[b8]? = some (.cells #[.slice A2 n1 c2, .slice A5 m5 c5] 31 (0, 0))) := by
            rw [← hV]
            have h1 := set_at (set_at HQ9.out 0 (.slice A2 n1 c2)) 1 (.slice A5 m5 c5)
            unfold Hid; simpa using h1
          have HSPV := Lib.hid (HSP9.out.past PV (Or.inr HB8.out))
          have HRSV := Lib.hid (HRS9.out.both HRT9.out PV)
          have HRTV := Lib.hid (HRT9.out.past PV)
          have HBV : Hid (Below w.heap.size w V) := HB9.out.trans (PV.below (by have := HRBW.out; have := HB8.out; omega) HB9.out.size)
          have v0 := (row_cell HQV.out 0).1
          have v1 := (row_cell HQV.out 1).1
          simp at v0 v1
          have HV01 := Lib.hid (And.intro v0 v1)
          clear x0 x1 y0 y1 xf0 xf1 hV PV v0 v1
          have hfl := HSH3.out.flat
          have hsm := HSH3.out.sum
          have HFL : Hid (LL'.flatten.length ≤ 5000) := by unfold Hid; omega
          have CW := Lib.hid fun (W : World) (hb : Below V.heap.size V W) => words_any lo hi p rb own LL'.flatten W (HSPV.out.below hb) HFL.out
          have CRW := Lib.hid fun (W : World) (hb : Below V.heap.size V W) => rwords_any rb (.slice A2 n1 c2) (.slice A5 m5 c5) own LL' W (HRSV.out.below hb) (by rw [HSH3.out.len]; exact HSH3.out.few) HFL.out
          obtain ⟨F, hF⟩ : ∃ F, LL'.flatten = F := ⟨_, rfl⟩
          rw [hF] at CW CRW HFL
          clear hfl hsm hF
          refine wp_region_held_drew (S := fun w' => w'.cell? ⟨b8, 0, none⟩ = some (.slice A2 n1 c2) ∧ w'.cell? ⟨b8, 1, none⟩ = some (.slice A5 m5 c5)) (by kernel_rfl) ?_ (fun hHeld => ?_)
          · exact HV01.out
          refine takeD (i := 0) (d := some 67) (v := ?_) _ rfl rfl (by kernel_rfl) (by kernel_rfl) (by kernel_rfl) (fun _ _ _ h => h) (by rfl) ?_ (by assumption) ?_
          rotate_left
          · (intro w hSw; (try dsimp only at hSw); go_simp) <;> with_reducible rfl
          try simp only [Act.put, List.setIfInBounds_toArray, List.set_cons_zero, List.set_cons_succ]
          refine takeD (i := 1) (d := some 68) (v := ?_) _ rfl rfl (by kernel_rfl) (by kernel_rfl) (by kernel_rfl) (fun _ _ _ h => h) (by rfl) ?_ (by assumption) ?_
          rotate_left
          · (intro w hSw; (try dsimp only at hSw); go_simp) <;> with_reducible rfl
          try simp only [Act.put, List.setIfInBounds_toArray, List.set_cons_zero, List.set_cons_succ]
          refine takeD (i := 2) (d := some 69) (v := ?_) _ rfl rfl (by kernel_rfl) (by kernel_rfl) (by kernel_rfl) (fun _ _ _ h => h) (by rfl) ?_ (by assumption) ?_
          rotate_left
          · (intro w hSw; (try dsimp only at hSw); go_simp) <;> with_reducible rfl
          try simp only [Act.put, List.setIfInBounds_toArray, List.set_cons_zero, List.set_cons_succ]
          refine takeD (i := 3) (d := some 70) (v := ?_) _ rfl rfl (by kernel_rfl) (by kernel_rfl) (by kernel_rfl) (fun _ _ _ h => h) (by rfl) ?_ (by assumption) ?_
          rotate_left
          · (intro w hSw; (try dsimp only at hSw); go_simp) <;> with_reducible rfl
          try simp only [Act.put, List.setIfInBounds_toArray, List.set_cons_zero, List.set_cons_succ]
          refine takeD (i := 5) (d := some 72) (v := ?_) _ rfl rfl (by kernel_rfl) (by kernel_rfl) (by kernel_rfl) (fun _ _ _ h => h) (by rfl) ?_ (by assumption) ?_
          rotate_left
          · (intro w hSw; (try dsimp only at hSw); go_simp) <;> with_reducible rfl
          try simp only [Act.put, List.setIfInBounds_toArray, List.set_cons_zero, List.set_cons_succ]
          refine wpAnyH_ready (rs := [4]) (by kernel_rfl) (by simp) ?_
          refine AllReadyH.cons rfl (fun K hK => ?_) AllReadyH.nil
          go_simp
          go_at_call 17
          refine (CW.out _ (below_drewN (Below.refl _ _) 1)).mono ?_
          rintro e V1 ⟨⟨kk, cc, rfl, hw1⟩, bv1'⟩
          have bv1 : Below V.heap.size V V1 := (below_drewN (Below.refl _ _) 1).trans bv1'
          try go_wp2_with fail
          refine hK.out _ _ ⟨cell_later bv1 HV01.out.1, cell_later bv1 HV01.out.2⟩ (fun hHeld => ?_)
          clear hK K
          try simp only [Act.put, List.setIfInBounds_toArray, List.set_cons_zero, List.set_cons_succ]
          refine wpAnyH_ready (rs := [6]) (by kernel_rfl) (by simp) ?_
          refine AllReadyH.cons rfl (fun K hK => ?_) AllReadyH.nil
          go_simp
          go_at_call 18
          refine (CRW.out _ bv1).mono ?_
          rintro e V2 ⟨⟨rr, rfl, hw2⟩, bv2⟩
          obtain ⟨Ar, cr, rfl⟩ := slice_form hw2
          have BV2 : Below V.heap.size V V2 := bv1.trans (bv2.mono bv1.size)
          have hw1' := own_below hw1 bv2
          have CE := Lib.hid (rsame_any V2.heap.size V2.heap.size _ _ F F V2 (St.of_own' hw1' (fun q hq => by have := (hw1'.lt q hq).2; omega)) (St.of_own' hw2 (fun q hq => by have := (hw2.lt q hq).2; omega)) HFL.out)
          try go_wp2_with fail
          refine hK.out _ _ ⟨cell_later BV2 HV01.out.1, cell_later BV2 HV01.out.2⟩ (fun hHeld => ?_)
          clear hK K
          try simp only [Act.put, List.setIfInBounds_toArray, List.set_cons_zero, List.set_cons_succ]
          refine wpAnyH_ready (rs := [7]) (by kernel_rfl) (by simp) ?_
          refine AllReadyH.cons rfl (fun K hK => ?_) AllReadyH.nil
          go_simp
          go_at_call 16
          refine CE.out.mono ?_
          rintro e V3 ⟨rfl, bv3⟩
          have BV3 : Below V.heap.size V V3 := BV2.trans (bv3.mono BV2.size)
          try go_wp2_with fail
          refine hK.out _ _ ⟨cell_later BV3 HV01.out.1, cell_later BV3 HV01.out.2⟩ (fun hHeld => ?_)
          clear hK K hw1' hw1 hw2 CE CW CRW
          try simp only [Act.put, List.setIfInBounds_toArray, List.set_cons_zero, List.set_cons_succ]
          have hdt : decide (F = F) = true := by simp
          refine takeD (i := 8) (d := some 75) (v := ?_) _ rfl rfl (by kernel_rfl) (by kernel_rfl) (by kernel_rfl) (fun _ _ _ h => h) (by rfl) ?_ (by assumption) ?_
          rotate_left
          · (intro w hSw; (try dsimp only at hSw); go_simp) <;> with_reducible rfl
          try simp only [Act.put, List.setIfInBounds_toArray, List.set_cons_zero, List.set_cons_succ]
          refine takeD (i := 9) (d := some 76) (v := ?_) _ rfl rfl (by kernel_rfl) (by kernel_rfl) (by kernel_rfl) (fun _ _ _ h => h) (by rfl) ?_ (by assumption) ?_
          rotate_left
          · (intro w hSw; (try dsimp only at hSw); go_simp) <;> with_reducible rfl
          try simp only [Act.put, List.setIfInBounds_toArray, List.set_cons_zero, List.set_cons_succ]
          refine wpAnyH_done (by kernel_rfl) ?_ _
          have HQZ := Lib.hid (heap_keep BV3 HQV.out)
          have HSPZ := Lib.hid (HSPV.out.below BV3)
          have HRSZ := Lib.hid (HRSV.out.below BV3)
          have HRTZ := Lib.hid (HRTV.out.below BV3)
          have HBZ : Hid (Below w.heap.size w V3) := HBV.out.trans (BV3.mono HBV.out.size)
          clear hHeld bv1 bv1' bv2 bv3 BV2 BV3
          go_wp2_with fail
          go_roundw
          case rel =>
            have Q : AcRel no b8 lo hi p rb own (.slice A2 n1 c2) w (.int .i64 ((k : Int) + 1)) V3 := ⟨⟨k + 1, A5, m5, c5, LL', HX1.out, HX.out, by go_num, HQZ.out, HSPZ.out, HRSZ.out, HRTZ.out, HSH3.out, HBZ.out⟩⟩
            first | exact Q | ((repeat apply Exists.intro); exact ⟨Q, rfl⟩)
          case measure => have := HX1.out; simp [intOf]; omega
      · have hk1 : k = 100 := by have := HK.out; omega
        subst hk1
        clear hlt hl100
        go_wp2_with fail
        go_ret
        exact ⟨rfl, HB.out⟩
    · have hkIb : decide ((k : Int) < (no : Int)) = false := by rw [decide_eq_false_iff_not]; omega
      have hkIc : decide (k < no) = false := by rw [decide_eq_false_iff_not]; omega
      clear hlt
      go_wp2_with fail
      go_ret
      exact ⟨rfl, HB.out⟩
end Go.Proofs.Ytliggejkpmlgfaa
