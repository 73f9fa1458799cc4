/-
  The walk of SpaceApart. Each statement bears its own conditions.
-/
import Derived.Test.YtliggejkpmlgfaaSpZ
namespace Go.Proofs.Ytliggejkpmlgfaa
open Go.RowKit
set_option linter.unusedVariables false
set_option linter.unusedSimpArgs false
/-- A space in memory, and the one by value in a box of its own, with the areas that both were made of. -/
structure AS (lo hi p rb b8 : Nat) (A1 : Option Addr) (n1 c1 : Nat) (va vl : Value) (own : List MA) (LS LL : List (List Int)) (w wr : World) : Prop where
  sp : SP lo hi wr p rb own LS.flatten
  shs : Sh own LS
  sh : Sh own LL
  rs : RS rb wr va vl own LL
  rt : RS b8 wr va vl own LL
  q : wr.heap[b8]? = some (.cells #[va, vl] 31 (0, 0))
  st : St rb wr 5 (.slice A1 n1 c1) n1 (CA own)
  st8 : St b8 wr 5 (.slice A1 n1 c1) n1 (CA own)
  bel : Below w.heap.size w wr
section
variable {lo hi p rb b8 : Nat} {A1 : Option Addr} {n1 c1 : Nat} {va vl vl' : Value} {own : List MA} {LS LL LS' LL' : List (List Int)} {w w0 wr wr' : World}
theorem AS.below (h : AS lo hi p rb b8 A1 n1 c1 va vl own LS LL w wr) (hb : Below wr.heap.size wr wr') : AS lo hi p rb b8 A1 n1 c1 va vl own LS LL w wr' :=
  ⟨h.sp.below hb, h.shs, h.sh, h.rs.below hb, h.rt.below hb, heap_keep hb h.q, h.st.below hb, h.st8.below hb, h.bel.trans (hb.mono h.bel.size)⟩
/-- Words of the program's own space that change. -/
theorem AS.acts (h : AS lo hi p rb b8 A1 n1 c1 va vl own LS LL w wr) (hrb : w.heap.size ≤ rb ∧ rb < hi ∧ hi ≤ b8) (hp : Past rb wr wr') (hsp : SP lo hi wr' p rb own LS'.flatten) (hsh : Sh own LS') : AS lo hi p rb b8 A1 n1 c1 va vl own LS' LL w wr' :=
  have hl := (Array.getElem?_eq_some_iff.1 h.q).1
  ⟨hsp, hsh, h.sh, h.rs.past hp, h.rt.both h.rs hp, hp_keep hp (by omega) h.q, h.st.past hp, h.st8.both h.st hp, h.bel.trans (hp.below hrb.1 h.bel.size)⟩
/-- The other one, put in its box. -/
theorem AS.puts (h : AS lo hi p rb b8 A1 n1 c1 va vl own LS LL w wr) (hrb : w.heap.size ≤ rb ∧ rb < hi ∧ hi ≤ b8) (ht : Turns w0 wr va vl vl' own LL LL') (h1 : RS rb w0 va vl own LL) (h2 : RS b8 w0 va vl own LL) (hl : b8 < w0.heap.size) (hlr : rb < w0.heap.size) (hs : Sh own LL') :
    AS lo hi p rb b8 A1 n1 c1 va vl' own LS LL' w ((wr.setCell ⟨b8, 0, none⟩ va).setCell ⟨b8, 1, none⟩ vl') := by
  have PV : Past b8 wr ((wr.setCell ⟨b8, 0, none⟩ va).setCell ⟨b8, 1, none⟩ vl') := ((Past.refl _ _).setCell 0 _).setCell 1 _
  have r1 := ht rb hlr h1
  have r2 := ht b8 hl h2
  refine ⟨h.sp.past PV (Or.inr hrb.2.2), h.shs, hs, r1.both r2 PV, r2.past PV, ?_, h.st.both h.st8 PV, h.st8.past PV, h.bel.trans (PV.below (by omega) h.bel.size)⟩
  have h1 := set_at (set_at h.q 0 va) 1 vl'
  simpa using h1
end
structure Ap1Rel (nu : Nat) (lo hi p rb b8 : Nat) (A1 : Option Addr) (n1 c1 : Nat) (va : Value) (own : List MA) (w : World) (v : Value) (wr : World) : Prop where
  ex : ∃ (k : Nat) (A3 : Option Addr) (m3 c3 : Nat) (LL : List (List Int)), k ≤ n1 ∧ k ≤ nu ∧ v = .int .i64 (k : Int) ∧ AS lo hi p rb b8 A1 n1 c1 va (.slice A3 m3 c3) own LL LL w wr
structure Ap2Rel (lo hi p rb b8 : Nat) (A1 : Option Addr) (n1 c1 : Nat) (va vl : Value) (own : List MA) (LS LL : List (List Int)) (w : World) (v : Value) (wr : World) : Prop where
  ex : ∃ k : Nat, k ≤ 90 ∧ v = .int .u32 (k : Int) ∧ AS lo hi p rb b8 A1 n1 c1 va vl own LS LL w wr
set_option maxRecDepth 100000 in
set_option maxHeartbeats 16000000 in
theorem apart_walk (A : Option Addr) (n c : Nat) (Au : Option Addr) (nu cu : Nat) (y0 y1 : Int) (l : List MA) (u : World) (hl : Row u 5 RAq (.slice A n c) l) (hu : UW u Au nu cu) (hy0 : U32 y0) (hy1 : U32 y1) :
    Calls Try.prog 5 #[.slice A n c, .slice Au nu cu, .agg #[.int .u32 y0, .int .u32 y1]] u fun e w' => e = .returned (.bool true) ∧ Below u.heap.size u w' := by
  have HL0 : Hid (∀ g, u.heap.size ≤ g → St g u 5 (.slice A n c) l.length (CA l)) := by
    obtain ⟨h1, _, h2⟩ := row_areas hl
    unfold Hid; rw [h1]; exact h2
  obtain ⟨huc, ns, hnn, hus, hst⟩ := hu
  have HNS := Lib.hid hnn
  have HUS := Lib.hid hus
  have HVU := Lib.hid hst
  have HY1 := Lib.hid hy1
  obtain ⟨an, han⟩ : ∃ an : Nat, Int.tmod y0 80 = (an : Int) := ⟨(Int.tmod y0 80).toNat, by have := hy0.1; have := Int.tmod_nonneg 80 hy0.1; omega⟩
  have HAN : Hid (an < 80) := by
    have := Int.tmod_lt_of_pos y0 (b := 80) (by omega)
    unfold Hid; omega
  have hwa : IntKind.u32.wrap (an : Int) = (an : Int) := by have := HAN.out; rw [IntKind.wrap_u32]; omega
  have han80 : an < 80 := HAN.out
  clear hl hst hus hnn hy0 hy1
  go_enter Try.func5, Try.ntmps5
  go_wp2_with fail
  have c0 : (u.alloc (.cells #[.int .u32 y0, .int .u32 y1] 55)).drew.cell? ⟨u.heap.size, 0, none⟩ = some (.int .u32 y0) := by simp
  have c1' : (u.alloc (.cells #[.int .u32 y0, .int .u32 y1] 55)).drew.cell? ⟨u.heap.size, 1, none⟩ = some (.int .u32 y1) := by simp
  have HC := Lib.hid (And.intro c0 c1')
  clear c0 c1'
  refine wp_region_held_drew (S := fun w' => w'.cell? ⟨u.heap.size, 0, none⟩ = some (.int .u32 y0) ∧ w'.cell? ⟨u.heap.size, 1, none⟩ = some (.int .u32 y1)) (by kernel_rfl) ?_ (fun hHeld => ?_)
  · exact HC.out
  refine takeD (i := 0) (d := some 24) (v := ?_) _ rfl rfl (by kernel_rfl) (by kernel_rfl) (by kernel_rfl) (fun _ _ _ h => h) (by rfl) ?_ (by assumption) ?_
  rotate_left
  · (intro w hSw; (try dsimp only at hSw); go_simp) <;> with_reducible rfl
  try simp only [Act.put, List.setIfInBounds_toArray, List.set_cons_zero, List.set_cons_succ]
  refine takeD (i := 1) (d := some 25) (v := ?_) _ rfl rfl (by kernel_rfl) (by kernel_rfl) (by kernel_rfl) (fun _ _ _ h => h) (by rfl) ?_ (by assumption) ?_
  rotate_left
  · (intro w hSw; (try dsimp only at hSw); go_simp) <;> with_reducible rfl
  try simp only [Act.put, List.setIfInBounds_toArray, List.set_cons_zero, List.set_cons_succ]
  refine takeD (i := 2) (d := some 26) (v := ?_) _ rfl rfl (by kernel_rfl) (by kernel_rfl) (by kernel_rfl) (fun _ _ _ h => h) (by rfl) ?_ (by assumption) ?_
  rotate_left
  · (intro w hSw; (try dsimp only at hSw); go_simp) <;> with_reducible rfl
  try simp only [Act.put, List.setIfInBounds_toArray, List.set_cons_zero, List.set_cons_succ]
  refine takeD (i := 3) (d := some 27) (v := ?_) _ rfl rfl (by kernel_rfl) (by kernel_rfl) (by kernel_rfl) (fun _ _ _ h => h) (by rfl) ?_ (by assumption) ?_
  rotate_left
  · (intro w hSw; (try dsimp only at hSw); go_simp) <;> with_reducible rfl
  try simp only [Act.put, List.setIfInBounds_toArray, List.set_cons_zero, List.set_cons_succ]
  refine takeD (i := 4) (d := some 7) (v := ?_) _ rfl rfl (by kernel_rfl) (by kernel_rfl) (by kernel_rfl) (fun _ _ _ h => h) (by rfl) ?_ (by assumption) ?_
  rotate_left
  · (intro w hSw; (try dsimp only at hSw); go_simp) <;> with_reducible rfl
  try simp only [Act.put, List.setIfInBounds_toArray, List.set_cons_zero, List.set_cons_succ]
  refine takeD (i := 5) (d := some 8) (v := ?_) _ rfl rfl (by kernel_rfl) (by kernel_rfl) (by kernel_rfl) (fun _ _ _ h => h) (by rfl) ?_ (by assumption) ?_
  rotate_left
  · (intro w hSw; (try dsimp only at hSw); go_simp) <;> with_reducible rfl
  try simp only [Act.put, List.setIfInBounds_toArray, List.set_cons_zero, List.set_cons_succ]
  refine wpAnyH_done (by kernel_rfl) ?_ _
  obtain ⟨w, hw⟩ : ∃ w, (u.alloc (.cells #[.int .u32 y0, .int .u32 y1] 55)).drew = w := ⟨_, rfl⟩
  simp only [hw]
  have HUW : Hid (Below u.heap.size u w) := by rw [← hw]; exact below_drewN ((Below.refl _ _).alloc (Nat.le_refl _) _) 1
  have HL : Hid (St w.heap.size w 5 (.slice A n c) l.length (CA l)) := (HL0.out w.heap.size HUW.out.size).below HUW.out
  clear hw hHeld HC HL0
  go_wp2_with fail
  refine (fix_any w.heap.size _ l w HL.out).mono ?_
  rintro e W1 ⟨⟨own, A1, c1, a1, rfl, hown1, ho1⟩, b1⟩
  obtain ⟨n1, hn1⟩ : ∃ n1, own.length = n1 := ⟨_, rfl⟩
  rw [hn1] at ho1 ⊢
  have HOWN := Lib.hid hown1
  have HN1 := Lib.hid hn1
  have HO1 := Lib.hid ho1
  have HB1 := Lib.hid b1
  have HN6 : Hid (n1 ≤ 6) := by have := hown1.few; unfold Hid; omega
  have hc1 : n1 ≤ c1 := own_cap ho1
  have HI64 : Hid (∀ x ∈ own, I64 x.frm ∧ I64 x.wds) := fun x hx => by have := hown1.each x hx; have := hown1.end_; have := hown1.few; unfold I64; omega
  clear hown1 hn1 ho1 b1
  go_wp2_with fail
  refine (new_any W1.heap.size A1 n1 c1 own W1 (St.of_own' HO1.out (fun k hk => by have := (HO1.out.lt k hk).2; omega)) HN1.out hc1 HI64.out (by have := HN6.out; omega)).mono ?_
  rintro e W2 ⟨_, hok, b2⟩
  obtain ⟨p, rb, rfl, hsp⟩ := hok HOWN.out.ok
  obtain ⟨lo, hlo⟩ : ∃ lo, W1.heap.size = lo := ⟨_, rfl⟩
  have HSH : Hid (Sh own (LL0 own)) := LL0_sh HOWN.out.ok
  have hzz : zeros own = (LL0 own).flatten := (LL0_flat HSH.out.good).symm
  rw [hzz] at hsp
  have HLO : Hid (w.heap.size ≤ lo) := by rw [← hlo]; exact HB1.out.size
  have HB2 : Hid (Below w.heap.size w W2) := HB1.out.trans (b2.mono HB1.out.size)
  have HST2 : Hid (St rb W2 5 (.slice A1 n1 c1) n1 (CA own)) := by
    have hrb := hsp.hr.1
    exact (St.of_own' HO1.out (fun k hk => by have := (HO1.out.lt k hk).2; omega)).below b2
  rw [hlo] at hsp
  obtain ⟨hi, hhi⟩ : ∃ hi, W2.heap.size = hi := ⟨_, rfl⟩
  have hhi2 := hsp.hs
  have HSP2 : Hid (SP lo hi W2 p rb own (LL0 own).flatten) := by rw [← hhi]; exact hsp
  have he : ∀ w : World, (binOp .eql 25 (.pointer (some ⟨p, 0, none⟩)) (.pointer none)).run Try.prog w = .ok (.bool false) w := fun _ => rfl
  have HHI : Hid (hi = W2.heap.size) := hhi.symm
  clear hok hsp b2 hlo hhi hzz hhi2 HO1
  go_wp2_with fail
  refine (rnew_any rb A1 n1 c1 own W2 HST2.out HN1.out HI64.out (by have := HN6.out; omega)).mono ?_
  rintro e W3 ⟨_, hok, b3⟩
  obtain ⟨va, vl, rfl, hrs⟩ := hok HOWN.out.ok
  have hrs1 := hrs rb (by have := HSP2.out.hr.2; have := HHI.out; omega)
  have HALL := Lib.hid hrs
  obtain ⟨A2, c2, A3, c3, hva, hvl⟩ := hrs1.form
  obtain ⟨m3, hm3⟩ : ∃ m3, (LL0 own).length = m3 := ⟨_, rfl⟩
  rw [HN1.out] at hva
  rw [hm3] at hvl
  subst hva hvl
  have HRS3 := Lib.hid hrs1
  have HSP3 := Lib.hid (HSP2.out.below b3)
  have HST3 := Lib.hid (HST2.out.below b3)
  have HB3 : Hid (Below w.heap.size w W3) := HB2.out.trans (b3.mono HB2.out.size)
  have HSZ3 : Hid (hi ≤ W3.heap.size) := by rw [HHI.out]; exact b3.size
  clear hok hrs hrs1 b3 hm3
  go_wp2_with fail
  obtain ⟨W4, hW4⟩ : ∃ W4, W3.alloc (.cells #[.slice A2 n1 c2, .slice A3 m3 c3] 31) = W4 := ⟨_, rfl⟩
  simp only [hW4]
  have b34 : Below W3.heap.size W3 W4 := by rw [← hW4]; exact (Below.refl _ _).alloc (Nat.le_refl _) _
  obtain ⟨b8, hb8⟩ : ∃ b8, W3.heap.size = b8 := ⟨_, rfl⟩
  have HQ4 : Hid (W4.heap[b8]? = some (.cells #[.slice A2 n1 c2, .slice A3 m3 c3] 31 (0, 0))) := by rw [← hW4, ← hb8]; exact heap_alloc_new _ _
  have HB8 : Hid (hi ≤ b8) := by rw [← hb8]; exact HSZ3.out
  have HAS4 : Hid (AS lo hi p rb b8 A1 n1 c1 (.slice A2 n1 c2) (.slice A3 m3 c3) own (LL0 own) (LL0 own) w W4) :=
    ⟨HSP3.out.below b34, HSH.out, HSH.out, HRS3.out.below b34, (HRS3.out.fresh (by rw [← hb8]; exact Nat.le_refl _)).below b34, HQ4.out, HST3.out.below b34, (HST3.out.fresh (by rw [← hb8]; exact Nat.le_refl _)).below b34, HB3.out.trans (b34.mono HB3.out.size)⟩
  have HRBW : Hid (w.heap.size ≤ rb ∧ rb < hi ∧ hi ≤ b8) := by have := HSP3.out.hr; have := HLO.out; have := HB8.out; unfold Hid; omega
  try simp only [hb8]
  clear hW4 b34 hb8 HQ4 HSP2 HSP3 HRS3 HST2 HST3 HB1 HB2 HB3 HALL HSZ3 HHI HB8
  refine (told_any W4).mono ?_
  rintro e W5 ⟨rfl, b5⟩
  have HAS5 := Lib.hid (HAS4.out.below b5)
  have hn6 : n1 ≤ 6 := HN6.out
  clear b5 HAS4 HSH
  go_wp2_with fail
  go_loopw [14] (fun v wr => Ap1Rel nu lo hi p rb b8 A1 n1 c1 (.slice A2 n1 c2) own w v wr) (fun v => fun _ => n1 - (intOf v).toNat)
  case atStart => exact ⟨⟨0, A3, m3, c3, LL0 own, Nat.zero_le _, Nat.zero_le _, rfl, HAS5.out⟩⟩
  case round =>
    clear HAS5
    obtain ⟨⟨k, Ak, mk, ck, LL, hk1, hk2, rfl, has⟩⟩ := hrel
    have HKN := Lib.hid hk1
    have HKU := Lib.hid hk2
    have HAS := Lib.hid has
    clear hk1 hk2 has
    by_cases hlt : k < n1
    · have hkI : (k : Int) < (n1 : Int) := by omega
      by_cases hlu : k < nu
      · have hkU : (k : Int) < (nu : Int) := by omega
        have hk0 : (0 : Int) ≤ (k : Int) := by omega
        have hkc : k ≤ cu := by omega
        have hkc1 : k + 1 ≤ cu := by omega
        have hs1 : (0 : Int) ≤ (k : Int) + 1 := by omega
        have hs2 : (k : Int) + 1 ≤ (cu : Int) := by omega
        have hs3 : ¬ (cu = k) := by omega
        have HX1 : Hid (k < n1) := hlt
        have HX2 : Hid (k < nu) := hlu
        obtain ⟨hm1, b, off, e1, hbl, hg, hc⟩ := HAS.out.st.at_ hlt
        clear hm1
        subst e1
        have hxs : own[k]? = some (own[k]'(by have := HN1.out; omega)) := List.getElem?_eq_getElem _
        obtain ⟨x, hx⟩ : ∃ x, own[k]'(by have := HN1.out; omega) = x := ⟨_, rfl⟩
        rw [hx] at hxs
        have HXS := Lib.hid hxs
        have hgx := HOWN.out.each x (List.mem_of_getElem? hxs)
        have hend := HOWN.out.end_
        have hfew := HOWN.out.few
        have hca := CA_at hxs
        obtain ⟨xf, xw, xx, xr, xk⟩ := x
        dsimp only at hgx
        have HGX : Hid (0 ≤ xf ∧ xf ≤ 96 ∧ 1 ≤ xw ∧ xw ≤ 12) := by unfold Hid; omega
        have d0 : wr.cell? ⟨b, off + k * 5, none⟩ = some (.int .i64 xf) := by have := hc _ _ (hca 0 _ rfl); simpa [Nat.add_assoc] using this
        have hwf : IntKind.u32.wrap xf = xf := by have := HGX.out; rw [IntKind.wrap_u32]; omega
        have hwk : IntKind.i64.wrap ((k : Int) + 1) = ((k + 1 : Nat) : Int) := by have := HN6.out; rw [wrap_ok (by omega) (by omega)]; omega
        obtain ⟨hm1, b2, off2, e2, hbl2, hg2, hc2⟩ := ((HVU.out rb (by have := HRBW.out; have := HUW.out.size; omega)).below (HUW.out.trans (HAS.out.bel.mono HUW.out.size))).at_ hlu
        clear hm1
        subst e2
        obtain ⟨y, hy⟩ : ∃ y, ns[k]? = some y := ⟨_, List.getElem?_eq_getElem (by rw [HNS.out]; exact hlu)⟩
        have HYU : Hid (U32 y) := HUS.out y (List.mem_of_getElem? hy)
        have dy : wr.cell? ⟨b2, off2 + k, none⟩ = some (.int .u32 y) := hc2 k _ (by simp [CU, hy])
        have HSV : Hid (St rb wr 1 (.slice (some ⟨b2, off2 + k, none⟩) 1 (cu - k)) 1 (CU [y])) := ⟨_, _, rfl, rfl, fun _ => ⟨_, _, rfl, hbl2, hg2, fun j z hz => by
          cases j with
          | zero => simp [CU] at hz; subst hz; exact dy
          | succ j => simp [CU] at hz⟩⟩
        have hat := at_own HOWN.out.over HXS.out (k := 0) (by have := HGX.out; dsimp only; omega)
        dsimp only at hat
        have hxz : xf + ((0 : Nat) : Int) = xf := by simp
        rw [hxz] at hat
        have hfl : flV xf own [y] LL = (putL LL k 0 y, 0) := by unfold flV fillGo; rw [hat]; rfl
        have HSH2 : Hid (Sh own (putL LL k 0 y)) := HAS.out.sh.put k 0 HYU.out
        have hxu : U32 xf := by have := HGX.out; unfold U32; omega
        have CF := Lib.hid fun (W : World) (hb : Below wr.heap.size wr W) => fill_any lo hi p rb own LL [y] (.slice (some ⟨b2, off2 + k, none⟩) 1 (cu - k)) xf W (HAS.out.sp.below hb) HAS.out.sh (HSV.out.below hb) (fun x hx => by simp at hx; subst hx; exact HYU.out) (by simp) hxu
        have CR := Lib.hid fun (W : World) (hp : Past rb wr W) (h : RS rb W (.slice A2 n1 c2) (.slice Ak mk ck) own LL) => rfill_any rb (.slice A2 n1 c2) (.slice Ak mk ck) (.slice (some ⟨b2, off2 + k, none⟩) 1 (cu - k)) own LL [y] xf W h HAS.out.sh hxu (HSV.out.past hp) (fun x hx => by simp at hx; subst hx; exact HYU.out) (by simp)
        rw [hfl] at CF CR
        dsimp only at CF CR
        obtain ⟨_, b', off', e', _, hg8, _⟩ := HAS.out.st8.at_ HX1.out
        injection e' with e'
        injection e' with e' e2'
        clear e2'
        have HBB : Hid (b < wr.heap.size ∧ b ≠ rb ∧ b ≠ b8) := ⟨hbl, hg, by rw [e']; exact hg8⟩
        clear e' hg8
        clear hc hca hlt hlu hx hbl hg hxs hgx hend hfew hbl2 hg2 hc2 hy hat hxz hfl hxu
        have D0 := Lib.hid d0
        clear dy d0
        go_wp2_with fail
        refine wp_region_held_drew (S := fun w' => w'.cell? ⟨b, off + k * 5, none⟩ = some (.int .i64 xf)) (by kernel_rfl) ?_ (fun hHeld => ?_)
        · exact D0.out
        refine takeD (i := 0) (d := some 66) (v := ?_) _ rfl rfl (by kernel_rfl) (by kernel_rfl) (by kernel_rfl) (fun _ _ _ h => h) (by rfl) ?_ (by assumption) ?_
        rotate_left
        · (intro w hSw; (try dsimp only at hSw); go_simp) <;> with_reducible rfl
        try simp only [Act.put, List.setIfInBounds_toArray, List.set_cons_zero, List.set_cons_succ]
        refine takeD (i := 1) (d := some 67) (v := ?_) _ rfl rfl (by kernel_rfl) (by kernel_rfl) (by kernel_rfl) (fun _ _ _ h => h) (by rfl) ?_ (by assumption) ?_
        rotate_left
        · (intro w hSw; (try dsimp only at hSw); go_simp) <;> with_reducible rfl
        try simp only [Act.put, List.setIfInBounds_toArray, List.set_cons_zero, List.set_cons_succ]
        refine takeD (i := 2) (d := some 68) (v := ?_) _ rfl rfl (by kernel_rfl) (by kernel_rfl) (by kernel_rfl) (fun _ _ _ h => h) (by rfl) ?_ (by assumption) ?_
        rotate_left
        · (intro w hSw; (try dsimp only at hSw); go_simp) <;> with_reducible rfl
        try simp only [Act.put, List.setIfInBounds_toArray, List.set_cons_zero, List.set_cons_succ]
        refine takeD (i := 3) (d := some 69) (v := ?_) _ rfl rfl (by kernel_rfl) (by kernel_rfl) (by kernel_rfl) (fun _ _ _ h => h) (by rfl) ?_ (by assumption) ?_
        rotate_left
        · (intro w hSw; (try dsimp only at hSw); go_simp) <;> with_reducible rfl
        try simp only [Act.put, List.setIfInBounds_toArray, List.set_cons_zero, List.set_cons_succ]
        refine takeD (i := 4) (d := some 70) (v := ?_) _ rfl rfl (by kernel_rfl) (by kernel_rfl) (by kernel_rfl) (fun _ _ _ h => h) (by rfl) ?_ (by assumption) ?_
        rotate_left
        · (intro w hSw; (try dsimp only at hSw); go_simp) <;> with_reducible rfl
        try simp only [Act.put, List.setIfInBounds_toArray, List.set_cons_zero, List.set_cons_succ]
        refine takeD (i := 5) (d := some 71) (v := ?_) _ rfl rfl (by kernel_rfl) (by kernel_rfl) (by kernel_rfl) (fun _ _ _ h => h) (by rfl) ?_ (by assumption) ?_
        rotate_left
        · (intro w hSw; (try dsimp only at hSw); go_simp) <;> with_reducible rfl
        try simp only [Act.put, List.setIfInBounds_toArray, List.set_cons_zero, List.set_cons_succ]
        refine takeD (i := 6) (d := some 72) (v := ?_) _ rfl rfl (by kernel_rfl) (by kernel_rfl) (by kernel_rfl) (fun _ _ _ h => h) (by rfl) ?_ (by assumption) ?_
        rotate_left
        · (intro w hSw; (try dsimp only at hSw); go_simp) <;> with_reducible rfl
        try simp only [Act.put, List.setIfInBounds_toArray, List.set_cons_zero, List.set_cons_succ]
        refine takeD (i := 7) (d := some 73) (v := ?_) _ rfl rfl (by kernel_rfl) (by kernel_rfl) (by kernel_rfl) (fun _ _ _ h => h) (by rfl) ?_ (by assumption) ?_
        rotate_left
        · (intro w hSw; (try dsimp only at hSw); go_simp) <;> with_reducible rfl
        try simp only [Act.put, List.setIfInBounds_toArray, List.set_cons_zero, List.set_cons_succ]
        refine takeD (i := 8) (d := some 74) (v := ?_) _ rfl rfl (by kernel_rfl) (by kernel_rfl) (by kernel_rfl) (fun _ _ _ h => h) (by rfl) ?_ (by assumption) ?_
        rotate_left
        · (intro w hSw; (try dsimp only at hSw); go_simp) <;> with_reducible rfl
        try simp only [Act.put, List.setIfInBounds_toArray, List.set_cons_zero, List.set_cons_succ]
        refine takeD (i := 9) (d := some 75) (v := ?_) _ rfl rfl (by kernel_rfl) (by kernel_rfl) (by kernel_rfl) (fun _ _ _ h => h) (by rfl) ?_ (by assumption) ?_
        rotate_left
        · (intro w hSw; (try dsimp only at hSw); go_simp) <;> with_reducible rfl
        try simp only [Act.put, List.setIfInBounds_toArray, List.set_cons_zero, List.set_cons_succ]
        refine takeD (i := 10) (d := some 76) (v := ?_) _ rfl rfl (by kernel_rfl) (by kernel_rfl) (by kernel_rfl) (fun _ _ _ h => h) (by rfl) ?_ (by assumption) ?_
        rotate_left
        · (intro w hSw; (try dsimp only at hSw); go_simp) <;> with_reducible rfl
        try simp only [Act.put, List.setIfInBounds_toArray, List.set_cons_zero, List.set_cons_succ]
        refine takeD (i := 11) (d := some 77) (v := ?_) _ rfl rfl (by kernel_rfl) (by kernel_rfl) (by kernel_rfl) (fun _ _ _ h => h) (by rfl) ?_ (by assumption) ?_
        rotate_left
        · (intro w hSw; (try dsimp only at hSw); go_simp) <;> with_reducible rfl
        try simp only [Act.put, List.setIfInBounds_toArray, List.set_cons_zero, List.set_cons_succ]
        refine wpAnyH_ready (rs := [12]) (by kernel_rfl) (by simp) ?_
        refine AllReadyH.cons rfl (fun K hK => ?_) AllReadyH.nil
        go_simp
        go_at_call 23
        refine (CF.out _ (below_drewN (Below.refl _ _) 1)).mono ?_
        rintro e W6 ⟨rfl, hsp6, hp6'⟩
        have hp6 : Past rb wr W6 := (Past.refl rb wr).drew.trans hp6'
        have HP6 := Lib.hid hp6
        have HAS6 := Lib.hid (HAS.out.acts HRBW.out hp6 hsp6 HSH2.out)
        have D6 := Lib.hid (cell_past hp6 HBB.out.1 HBB.out.2.1 D0.out)
        try go_wp2_with fail
        refine hK.out _ _ D6.out (fun hHeld => ?_)
        clear hK K hsp6 hp6 hp6' CF
        try simp only [Act.put, List.setIfInBounds_toArray, List.set_cons_zero, List.set_cons_succ]
        refine takeD (i := 13) (d := some 79) (v := ?_) _ rfl rfl (by kernel_rfl) (by kernel_rfl) (by kernel_rfl) (fun _ _ _ h => h) (by rfl) ?_ (by assumption) ?_
        rotate_left
        · (intro w hSw; (try dsimp only at hSw); go_simp) <;> with_reducible rfl
        try simp only [Act.put, List.setIfInBounds_toArray, List.set_cons_zero, List.set_cons_succ]
        refine wpAnyH_done (by kernel_rfl) ?_ _
        clear hHeld
        go_wp2_with fail
        have q0 : W6.cell? ⟨b8, 0, none⟩ = some (.slice A2 n1 c2) := by have := (row_cell HAS6.out.q 0).1; simpa using this
        have q1 : W6.cell? ⟨b8, 1, none⟩ = some (.slice Ak mk ck) := by have := (row_cell HAS6.out.q 1).1; simpa using this
        have q0' : W6.drew.cell? ⟨b8, 0, none⟩ = some (.slice A2 n1 c2) := q0
        have q1' : W6.drew.cell? ⟨b8, 1, none⟩ = some (.slice Ak mk ck) := q1
        refine wp_region_held_drew (S := fun w' => w'.cell? ⟨b, off + k * 5, none⟩ = some (.int .i64 xf)) (by kernel_rfl) ?_ (fun hHeld => ?_)
        · exact D6.out
        refine takeD (i := 1) (d := some 82) (v := ?_) _ rfl rfl (by kernel_rfl) (by kernel_rfl) (by kernel_rfl) (fun _ _ _ h => h) (by rfl) ?_ (by assumption) ?_
        rotate_left
        · (intro w hSw; (try dsimp only at hSw); go_simp) <;> with_reducible rfl
        try simp only [Act.put, List.setIfInBounds_toArray, List.set_cons_zero, List.set_cons_succ]
        refine takeD (i := 2) (d := some 83) (v := ?_) _ rfl rfl (by kernel_rfl) (by kernel_rfl) (by kernel_rfl) (fun _ _ _ h => h) (by rfl) ?_ (by assumption) ?_
        rotate_left
        · (intro w hSw; (try dsimp only at hSw); go_simp) <;> with_reducible rfl
        try simp only [Act.put, List.setIfInBounds_toArray, List.set_cons_zero, List.set_cons_succ]
        refine takeD (i := 3) (d := some 84) (v := ?_) _ rfl rfl (by kernel_rfl) (by kernel_rfl) (by kernel_rfl) (fun _ _ _ h => h) (by rfl) ?_ (by assumption) ?_
        rotate_left
        · (intro w hSw; (try dsimp only at hSw); go_simp) <;> with_reducible rfl
        try simp only [Act.put, List.setIfInBounds_toArray, List.set_cons_zero, List.set_cons_succ]
        refine takeD (i := 4) (d := some 85) (v := ?_) _ rfl rfl (by kernel_rfl) (by kernel_rfl) (by kernel_rfl) (fun _ _ _ h => h) (by rfl) ?_ (by assumption) ?_
        rotate_left
        · (intro w hSw; (try dsimp only at hSw); go_simp) <;> with_reducible rfl
        try simp only [Act.put, List.setIfInBounds_toArray, List.set_cons_zero, List.set_cons_succ]
        refine takeD (i := 5) (d := some 86) (v := ?_) _ rfl rfl (by kernel_rfl) (by kernel_rfl) (by kernel_rfl) (fun _ _ _ h => h) (by rfl) ?_ (by assumption) ?_
        rotate_left
        · (intro w hSw; (try dsimp only at hSw); go_simp) <;> with_reducible rfl
        try simp only [Act.put, List.setIfInBounds_toArray, List.set_cons_zero, List.set_cons_succ]
        refine takeD (i := 6) (d := some 87) (v := ?_) _ rfl rfl (by kernel_rfl) (by kernel_rfl) (by kernel_rfl) (fun _ _ _ h => h) (by rfl) ?_ (by assumption) ?_
        rotate_left
        · (intro w hSw; (try dsimp only at hSw); go_simp) <;> with_reducible rfl
        try simp only [Act.put, List.setIfInBounds_toArray, List.set_cons_zero, List.set_cons_succ]
        refine takeD (i := 7) (d := some 88) (v := ?_) _ rfl rfl (by kernel_rfl) (by kernel_rfl) (by kernel_rfl) (fun _ _ _ h => h) (by rfl) ?_ (by assumption) ?_
        rotate_left
        · (intro w hSw; (try dsimp only at hSw); go_simp) <;> with_reducible rfl
        try simp only [Act.put, List.setIfInBounds_toArray, List.set_cons_zero, List.set_cons_succ]
        refine takeD (i := 8) (d := some 89) (v := ?_) _ rfl rfl (by kernel_rfl) (by kernel_rfl) (by kernel_rfl) (fun _ _ _ h => h) (by rfl) ?_ (by assumption) ?_
        rotate_left
        · (intro w hSw; (try dsimp only at hSw); go_simp) <;> with_reducible rfl
        try simp only [Act.put, List.setIfInBounds_toArray, List.set_cons_zero, List.set_cons_succ]
        refine takeD (i := 9) (d := some 90) (v := ?_) _ rfl rfl (by kernel_rfl) (by kernel_rfl) (by kernel_rfl) (fun _ _ _ h => h) (by rfl) ?_ (by assumption) ?_
        rotate_left
        · (intro w hSw; (try dsimp only at hSw); go_simp) <;> with_reducible rfl
        try simp only [Act.put, List.setIfInBounds_toArray, List.set_cons_zero, List.set_cons_succ]
        refine takeD (i := 10) (d := some 91) (v := ?_) _ rfl rfl (by kernel_rfl) (by kernel_rfl) (by kernel_rfl) (fun _ _ _ h => h) (by rfl) ?_ (by assumption) ?_
        rotate_left
        · (intro w hSw; (try dsimp only at hSw); go_simp) <;> with_reducible rfl
        try simp only [Act.put, List.setIfInBounds_toArray, List.set_cons_zero, List.set_cons_succ]
        refine takeD (i := 11) (d := some 92) (v := ?_) _ rfl rfl (by kernel_rfl) (by kernel_rfl) (by kernel_rfl) (fun _ _ _ h => h) (by rfl) ?_ (by assumption) ?_
        rotate_left
        · (intro w hSw; (try dsimp only at hSw); go_simp) <;> with_reducible rfl
        try simp only [Act.put, List.setIfInBounds_toArray, List.set_cons_zero, List.set_cons_succ]
        refine wpAnyH_ready (rs := [0]) (by kernel_rfl) (by simp) ?_
        refine AllReadyH.cons rfl (fun K hK => ?_) AllReadyH.nil
        go_simp
        refine hK.out _ _ hHeld (fun hHeld => ?_)
        clear hK K
        try simp only [Act.put, List.setIfInBounds_toArray, List.set_cons_zero, List.set_cons_succ]
        refine wpAnyH_ready (rs := [12]) (by kernel_rfl) (by simp) ?_
        refine AllReadyH.cons rfl (fun K hK => ?_) AllReadyH.nil
        go_simp
        go_at_call 26
        have b6d : Below W6.heap.size W6 W6.drew := below_drewN (Below.refl _ _) 1
        refine (CR.out _ (HP6.out.drew) (HAS6.out.rs.below b6d)).mono ?_
        rintro e W7 ⟨⟨vl', rfl, htn⟩, b7'⟩
        have b67 : Below W6.heap.size W6 W7 := b6d.trans (b7'.mono b6d.size)
        have HAS7 := Lib.hid (HAS6.out.below b67)
        have HTN := Lib.hid htn
        have HR1 := Lib.hid (HAS6.out.rs.below b6d)
        have HR2 := Lib.hid (HAS6.out.rt.below b6d)
        have hr7 := htn rb (Nat.lt_of_lt_of_le (by have := HAS6.out.sp.hr.2; have := HAS6.out.sp.hs; omega) b6d.size) HR1.out
        have HLR : Hid (rb < W6.drew.heap.size ∧ b8 < W6.drew.heap.size) := ⟨Nat.lt_of_lt_of_le (by have := HAS6.out.sp.hr.2; have := HAS6.out.sp.hs; omega) b6d.size, Nat.lt_of_lt_of_le (Array.getElem?_eq_some_iff.1 HAS6.out.q).1 b6d.size⟩
        obtain ⟨A5, c5, rfl⟩ : ∃ A5 c5, vl' = .slice A5 (putL LL k 0 y).length c5 := by
          obtain ⟨_, _, A5, c5, _, e⟩ := hr7.form
          exact ⟨A5, c5, e⟩
        obtain ⟨m5, hm5⟩ : ∃ m5, (putL LL k 0 y).length = m5 := ⟨_, rfl⟩
        rw [hm5] at HTN ⊢
        have D7 := Lib.hid (cell_later b67 D6.out)
        have HB7 : Hid (b < W7.heap.size) := by
          have h1 := HBB.out.1
          have h2 := HP6.out.size
          have h3 := b67.size
          unfold Hid; omega
        try go_wp2_with fail
        refine hK.out _ _ D7.out (fun hHeld => ?_)
        clear hK K htn b7' b67 b6d hr7 hm5 CR q0 q1 q0' q1'
        try simp only [Act.put, List.setIfInBounds_toArray, List.set_cons_zero, List.set_cons_succ]
        refine takeD (i := 13) (d := some 80) (v := ?_) _ rfl rfl (by kernel_rfl) (by kernel_rfl) (by kernel_rfl) (fun _ _ _ h => h) (by rfl) ?_ (by assumption) ?_
        rotate_left
        · (intro w hSw; (try dsimp only at hSw); go_simp) <;> with_reducible rfl
        try simp only [Act.put, List.setIfInBounds_toArray, List.set_cons_zero, List.set_cons_succ]
        refine takeD (i := 14) (d := some 94) (v := ?_) _ rfl rfl (by kernel_rfl) (by kernel_rfl) (by kernel_rfl) (fun _ _ _ h => h) (by rfl) ?_ (by assumption) ?_
        rotate_left
        · (intro w hSw; (try dsimp only at hSw); go_simp) <;> with_reducible rfl
        try simp only [Act.put, List.setIfInBounds_toArray, List.set_cons_zero, List.set_cons_succ]
        refine takeD (i := 15) (d := some 95) (v := ?_) _ rfl rfl (by kernel_rfl) (by kernel_rfl) (by kernel_rfl) (fun _ _ _ h => h) (by rfl) ?_ (by assumption) ?_
        rotate_left
        · (intro w hSw; (try dsimp only at hSw); go_simp) <;> with_reducible rfl
        try simp only [Act.put, List.setIfInBounds_toArray, List.set_cons_zero, List.set_cons_succ]
        have z0 : W7.cell? ⟨b8, 0, none⟩ = some (.slice A2 n1 c2) := by have := (row_cell HAS7.out.q 0).1; simpa using this
        have z1 : W7.cell? ⟨b8, 1, none⟩ = some (.slice Ak mk ck) := by have := (row_cell HAS7.out.q 1).1; simpa using this
        have zf0 := (row_cell HAS7.out.q 0).2
        have zf1 := (row_cell HAS7.out.q 1).2
        refine wpAnyH_ready (rs := [16]) (by kernel_rfl) (by simp) ?_
        refine AllReadyH.cons rfl (fun K hK => ?_) AllReadyH.nil
        go_simp
        refine hK.out _ _ (cell_past (((Past.refl b8 W7).setCell 0 _).setCell 1 _) HB7.out HBB.out.2.2 D7.out) (fun hHeld => ?_)
        clear hK K z0 z1 zf0 zf1
        try simp only [Act.put, List.setIfInBounds_toArray, List.set_cons_zero, List.set_cons_succ]
        refine wpAnyH_done (by kernel_rfl) ?_ _
        have HAS8 := Lib.hid (HAS7.out.puts HRBW.out HTN.out HR1.out HR2.out HLR.out.2 HLR.out.1 HSH2.out)
        obtain ⟨W8, hW8⟩ : ∃ W8, (W7.setCell ⟨b8, 0, none⟩ (.slice A2 n1 c2)).setCell ⟨b8, 1, none⟩ (.slice A5 m5 c5) = W8 := ⟨_, rfl⟩
        simp only [hW8] at HAS8 ⊢
        clear hHeld hW8
        go_wp2_with fail
        go_roundw
        case rel =>
          have Q : Ap1Rel nu lo hi p rb b8 (some ⟨b, off, none⟩) n1 c1 (.slice A2 n1 c2) own w (.int .i64 ((k : Int) + 1)) W8 := ⟨⟨k + 1, A5, m5, c5, putL LL k 0 y, HX1.out, HX2.out, by go_num, HAS8.out⟩⟩
          first | exact Q | ((repeat apply Exists.intro); exact ⟨Q, rfl⟩)
        case measure => have := HX1.out; have := HN6.out; simp [intOf]; omega
      · clear hlt
        have hlu1 : decide ((k : Int) < (nu : Int)) = false := by rw [decide_eq_false_iff_not]; omega
        have hlu2 : ¬ ((k : Int) < (nu : Int)) := by omega
        have HKX := HKN
        clear HKU
        have hau : U32 (an : Int) := by have := HAN.out; unfold U32; omega
        have CS := Lib.hid (store_any lo hi p rb own LL (an : Int) y1 wr HAS.out.sp HAS.out.sh hau)
        have CT := Lib.hid fun (W : World) (h : St rb W 5 (.slice A2 n1 c2) own.length (CA own)) => rat_any rb (.slice A2 n1 c2) Ak mk ck own (an : Int) W h HAS.out.sh.good HAS.out.sh.few hau
        clear hau
        rcases hat : atL (an : Int) own 0 with _ | ⟨i, j⟩
        · have hst : stV (an : Int) y1 own LL = (LL, 2) := by unfold stV; rw [hat]
          have hrt : rtV (an : Int) own = (-1, 0) := by unfold rtV; rw [hat]
          rw [hst] at CS
          rw [hrt] at CT
          dsimp only at CS CT
          clear hst hrt hat
          go_wp2_with fail
          refine CS.out.mono ?_
          rintro e W6 ⟨rfl, hsp6, hp6⟩
          have HAS6 : Hid (AS lo hi p rb b8 A1 n1 c1 (.slice A2 n1 c2) (.slice Ak mk ck) own LL LL w W6) := HAS.out.acts HRBW.out hp6 hsp6 HAS.out.sh
          have q0 : W6.cell? ⟨b8, 0, none⟩ = some (.slice A2 n1 c2) := by have := (row_cell HAS6.out.q 0).1; simpa using this
          have q1 : W6.cell? ⟨b8, 1, none⟩ = some (.slice Ak mk ck) := by have := (row_cell HAS6.out.q 1).1; simpa using this
          clear hsp6 hp6 CS
          go_wp2_with fail
          refine (CT.out W6 HAS6.out.rs.a).mono ?_
          rintro e W7 ⟨rfl, b7⟩
          have HAS7 := Lib.hid (HAS6.out.below b7)
          clear b7 CT q0 q1 HAS6
          go_wp2_with fail
          go_loopw [19] (fun v wr => Ap2Rel lo hi p rb b8 A1 n1 c1 (.slice A2 n1 c2) (.slice Ak mk ck) own LL LL w v wr) (fun v => fun _ => 90 - (intOf v).toNat)
          case atStart => exact ⟨⟨0, Nat.zero_le _, rfl, HAS7.out⟩⟩
          case round =>
            clear HAS7
            obtain ⟨⟨q, hq1, rfl, has⟩⟩ := hrel
            have HQN := Lib.hid hq1
            have HAS := Lib.hid has
            clear hq1 has
            by_cases hlt : q < 90
            · have hkI9 : (q : Int) < 90 := by omega
              have HQX : Hid (q < 90) := hlt
              have hwq : IntKind.u32.wrap ((q : Int) + 1) = (q : Int) + 1 := by rw [IntKind.wrap_u32]; omega
              have hqu : U32 (q : Int) := by unfold U32; omega
              have CL := Lib.hid (load_any lo hi p rb own LL (q : Int) wr HAS.out.sp HAS.out.shs hqu)
              have CM := Lib.hid fun (W : World) (hb : Below wr.heap.size wr W) => rload_any rb (.slice A2 n1 c2) (.slice Ak mk ck) own LL (q : Int) W (HAS.out.rs.below hb) HAS.out.sh hqu
              clear hlt hqu
              obtain ⟨⟨z, g⟩, hz⟩ : ∃ z, ldV (q : Int) own LL = z := ⟨_, rfl⟩
              rw [hz] at CL CM
              dsimp only at CL CM
              clear hz
              by_cases heq : q = an
              · subst heq
                go_wp2_with fail
                refine CL.out.mono ?_
                rintro e V1 ⟨rfl, bv1⟩
                have HASV := Lib.hid (HAS.out.below bv1)
                have q0 : V1.cell? ⟨b8, 0, none⟩ = some (.slice A2 n1 c2) := by have := (row_cell HASV.out.q 0).1; simpa using this
                have q1 : V1.cell? ⟨b8, 1, none⟩ = some (.slice Ak mk ck) := by have := (row_cell HASV.out.q 1).1; simpa using this
                clear CL
                go_wp2_with fail
                refine (CM.out V1 bv1).mono ?_
                rintro e V2 ⟨rfl, bv2⟩
                have HASW := Lib.hid (HASV.out.below bv2)
                clear CM bv1 bv2 q0 q1
                go_wp2_with fail
                go_roundw
                case rel =>
                  have Q : Ap2Rel lo hi p rb b8 A1 n1 c1 (.slice A2 n1 c2) (.slice Ak mk ck) own LL LL w (.int .u32 ((q : Int) + 1)) V2 := ⟨⟨q + 1, HQX.out, by simp, HASW.out⟩⟩
                  first | exact Q | ((repeat apply Exists.intro); exact ⟨Q, rfl⟩)
                case measure => have := HQX.out; simp [intOf]; omega
              · have heqI : ¬ ((q : Int) = (an : Int)) := by omega
                go_wp2_with fail
                refine CL.out.mono ?_
                rintro e V1 ⟨rfl, bv1⟩
                have HASV := Lib.hid (HAS.out.below bv1)
                have q0 : V1.cell? ⟨b8, 0, none⟩ = some (.slice A2 n1 c2) := by have := (row_cell HASV.out.q 0).1; simpa using this
                have q1 : V1.cell? ⟨b8, 1, none⟩ = some (.slice Ak mk ck) := by have := (row_cell HASV.out.q 1).1; simpa using this
                clear CL
                go_wp2_with fail
                refine (CM.out V1 bv1).mono ?_
                rintro e V2 ⟨rfl, bv2⟩
                have HASW := Lib.hid (HASV.out.below bv2)
                clear CM bv1 bv2 q0 q1
                go_wp2_with fail
                go_roundw
                case rel =>
                  have Q : Ap2Rel lo hi p rb b8 A1 n1 c1 (.slice A2 n1 c2) (.slice Ak mk ck) own LL LL w (.int .u32 ((q : Int) + 1)) V2 := ⟨⟨q + 1, HQX.out, by simp, HASW.out⟩⟩
                  first | exact Q | ((repeat apply Exists.intro); exact ⟨Q, rfl⟩)
                case measure => have := HQX.out; simp [intOf]; omega
            · have hqn : q = 90 := by have := HQN.out; omega
              subst hqn
              clear hlt
              go_wp2_with fail
              go_ret
              exact ⟨rfl, HUW.out.trans (HAS.out.bel.mono HUW.out.size)⟩
        · obtain ⟨x, L, u1, h1, h2, h3, h4, h5, h6⟩ := HAS.out.sh.at_ hat
          have hrt : rtV (an : Int) own = ((i : Int), (j : Int)) := by unfold rtV; rw [hat]
          have hfd : fdA (an : Int) own = x := by unfold fdA; rw [hat]; dsimp only; rw [h1]; rfl
          have HLV : Hid (ldV (an : Int) own LL = (u1, 0)) := ldV_of hat h2 h3
          have HIN : Hid (i < n1) := by rw [← HN1.out]; exact (List.getElem?_eq_some_iff.1 h1).1
          have hiI : (i : Int) < (n1 : Int) := by have := HIN.out; omega
          have hi0 : (0 : Int) ≤ (i : Int) := by omega
          have hj0 : (0 : Int) ≤ (j : Int) := by omega
          have HXI := Lib.hid h1
          have HLI := Lib.hid h2
          have HUJ := Lib.hid h3
          rw [hrt] at CT
          dsimp only at CT
          have HVV := Lib.hid fun (p : Int) => ldV_put HAS.out.sh (p := p) (y := y1) hat
          have hst : stV (an : Int) y1 own LL = if x.wr = false then (LL, 11) else (putL LL i j y1, 0) := by unfold stV; rw [hat]; dsimp only; rw [hfd]
          rw [hst] at CS
          have HSHP := Lib.hid (HAS.out.sh.put i j HY1.out)
          obtain ⟨xf, xw, xv, xr, xk⟩ := x
          dsimp only at CS
          clear hst hrt hat h1 h2 h3 h4 h5 h6 hfd
          cases xv
          · rw [if_pos rfl] at CS
            dsimp only at CS
            go_wp2_with fail
            refine CS.out.mono ?_
            rintro e W6 ⟨rfl, hsp6, hp6⟩
            have HAS6 : Hid (AS lo hi p rb b8 A1 n1 c1 (.slice A2 n1 c2) (.slice Ak mk ck) own LL LL w W6) := HAS.out.acts HRBW.out hp6 hsp6 HAS.out.sh
            have q0 : W6.cell? ⟨b8, 0, none⟩ = some (.slice A2 n1 c2) := by have := (row_cell HAS6.out.q 0).1; simpa using this
            have q1 : W6.cell? ⟨b8, 1, none⟩ = some (.slice Ak mk ck) := by have := (row_cell HAS6.out.q 1).1; simpa using this
            clear hsp6 hp6 CS
            go_wp2_with fail
            refine (CT.out W6 HAS6.out.rs.a).mono ?_
            rintro e W7 ⟨rfl, b7⟩
            have HAS7 := Lib.hid (HAS6.out.below b7)
            clear b7 CT q0 q1 HAS6
            obtain ⟨hm1, b, off, e1, hbl, hg, hc⟩ := HAS7.out.st.at_ HIN.out
            clear hm1
            have hca := CA_at HXI.out
            have d2 : W7.cell? ⟨b, off + i * 5 + 2, none⟩ = some (.bool false) := by have := hc _ _ (hca 2 _ rfl); simpa [Nat.add_assoc] using this
            subst e1
            clear hc hca hbl hg
            go_wp2_with fail
            go_loopw [19] (fun v wr => Ap2Rel lo hi p rb b8 (some ⟨b, off, none⟩) n1 c1 (.slice A2 n1 c2) (.slice Ak mk ck) own LL LL w v wr) (fun v => fun _ => 90 - (intOf v).toNat)
            case atStart => exact ⟨⟨0, Nat.zero_le _, rfl, HAS7.out⟩⟩
            case round =>
              clear HAS7
              obtain ⟨⟨q, hq1, rfl, has⟩⟩ := hrel
              have HQN := Lib.hid hq1
              have HAS := Lib.hid has
              clear hq1 has
              by_cases hlt : q < 90
              · have hkI9 : (q : Int) < 90 := by omega
                have HQX : Hid (q < 90) := hlt
                have hwq : IntKind.u32.wrap ((q : Int) + 1) = (q : Int) + 1 := by rw [IntKind.wrap_u32]; omega
                have hqu : U32 (q : Int) := by unfold U32; omega
                have CL := Lib.hid (load_any lo hi p rb own LL (q : Int) wr HAS.out.sp HAS.out.shs hqu)
                have CM := Lib.hid fun (W : World) (hb : Below wr.heap.size wr W) => rload_any rb (.slice A2 n1 c2) (.slice Ak mk ck) own LL (q : Int) W (HAS.out.rs.below hb) HAS.out.sh hqu
                clear hlt hqu
                obtain ⟨⟨z, g⟩, hz⟩ : ∃ z, ldV (q : Int) own LL = z := ⟨_, rfl⟩
                rw [hz] at CL CM
                dsimp only at CL CM
                clear hz
                by_cases heq : q = an
                · subst heq
                  go_wp2_with fail
                  refine CL.out.mono ?_
                  rintro e V1 ⟨rfl, bv1⟩
                  have HASV := Lib.hid (HAS.out.below bv1)
                  have q0 : V1.cell? ⟨b8, 0, none⟩ = some (.slice A2 n1 c2) := by have := (row_cell HASV.out.q 0).1; simpa using this
                  have q1 : V1.cell? ⟨b8, 1, none⟩ = some (.slice Ak mk ck) := by have := (row_cell HASV.out.q 1).1; simpa using this
                  clear CL
                  go_wp2_with fail
                  refine (CM.out V1 bv1).mono ?_
                  rintro e V2 ⟨rfl, bv2⟩
                  have HASW := Lib.hid (HASV.out.below bv2)
                  clear CM bv1 bv2 q0 q1
                  go_wp2_with fail
                  go_roundw
                  case rel =>
                    have Q : Ap2Rel lo hi p rb b8 (some ⟨b, off, none⟩) n1 c1 (.slice A2 n1 c2) (.slice Ak mk ck) own LL LL w (.int .u32 ((q : Int) + 1)) V2 := ⟨⟨q + 1, HQX.out, by simp, HASW.out⟩⟩
                    first | exact Q | ((repeat apply Exists.intro); exact ⟨Q, rfl⟩)
                  case measure => have := HQX.out; simp [intOf]; omega
                · have heqI : ¬ ((q : Int) = (an : Int)) := by omega
                  go_wp2_with fail
                  refine CL.out.mono ?_
                  rintro e V1 ⟨rfl, bv1⟩
                  have HASV := Lib.hid (HAS.out.below bv1)
                  have q0 : V1.cell? ⟨b8, 0, none⟩ = some (.slice A2 n1 c2) := by have := (row_cell HASV.out.q 0).1; simpa using this
                  have q1 : V1.cell? ⟨b8, 1, none⟩ = some (.slice Ak mk ck) := by have := (row_cell HASV.out.q 1).1; simpa using this
                  clear CL
                  go_wp2_with fail
                  refine (CM.out V1 bv1).mono ?_
                  rintro e V2 ⟨rfl, bv2⟩
                  have HASW := Lib.hid (HASV.out.below bv2)
                  clear CM bv1 bv2 q0 q1
                  go_wp2_with fail
                  go_roundw
                  case rel =>
                    have Q : Ap2Rel lo hi p rb b8 (some ⟨b, off, none⟩) n1 c1 (.slice A2 n1 c2) (.slice Ak mk ck) own LL LL w (.int .u32 ((q : Int) + 1)) V2 := ⟨⟨q + 1, HQX.out, by simp, HASW.out⟩⟩
                    first | exact Q | ((repeat apply Exists.intro); exact ⟨Q, rfl⟩)
                  case measure => have := HQX.out; simp [intOf]; omega
              · have hqn : q = 90 := by have := HQN.out; omega
                subst hqn
                clear hlt
                go_wp2_with fail
                go_ret
                exact ⟨rfl, HUW.out.trans (HAS.out.bel.mono HUW.out.size)⟩
          · rw [if_neg (by simp)] at CS
            dsimp only at CS
            obtain ⟨LP, hLP⟩ : ∃ LP, putL LL i j y1 = LP := ⟨_, rfl⟩
            have HV : Hid (∀ p : Int, ldV p own LP = if p = (an : Int) then (y1, 0) else ldV p own LL) := by rw [← hLP]; exact HVV.out
            rw [hLP] at CS HSHP
            clear HVV hLP
            go_wp2_with fail
            refine CS.out.mono ?_
            rintro e W6 ⟨rfl, hsp6, hp6⟩
            have HAS6 : Hid (AS lo hi p rb b8 A1 n1 c1 (.slice A2 n1 c2) (.slice Ak mk ck) own LP LL w W6) := HAS.out.acts HRBW.out hp6 hsp6 HSHP.out
            have q0 : W6.cell? ⟨b8, 0, none⟩ = some (.slice A2 n1 c2) := by have := (row_cell HAS6.out.q 0).1; simpa using this
            have q1 : W6.cell? ⟨b8, 1, none⟩ = some (.slice Ak mk ck) := by have := (row_cell HAS6.out.q 1).1; simpa using this
            clear hsp6 hp6 CS
            go_wp2_with fail
            refine (CT.out W6 HAS6.out.rs.a).mono ?_
            rintro e W7 ⟨rfl, b7⟩
            have HAS7 := Lib.hid (HAS6.out.below b7)
            clear b7 CT q0 q1 HAS6
            obtain ⟨hm1, b, off, e1, hbl, hg, hc⟩ := HAS7.out.st.at_ HIN.out
            clear hm1
            have hca := CA_at HXI.out
            have d2 : W7.cell? ⟨b, off + i * 5 + 2, none⟩ = some (.bool true) := by have := hc _ _ (hca 2 _ rfl); simpa [Nat.add_assoc] using this
            subst e1
            clear hc hca hbl hg
            go_wp2_with fail
            go_loopw [19] (fun v wr => Ap2Rel lo hi p rb b8 (some ⟨b, off, none⟩) n1 c1 (.slice A2 n1 c2) (.slice Ak mk ck) own LP LL w v wr) (fun v => fun _ => 90 - (intOf v).toNat)
            case atStart => exact ⟨⟨0, Nat.zero_le _, rfl, HAS7.out⟩⟩
            case round =>
              clear HAS7
              obtain ⟨⟨q, hq1, rfl, has⟩⟩ := hrel
              have HQN := Lib.hid hq1
              have HAS := Lib.hid has
              clear hq1 has
              by_cases hlt : q < 90
              · have hkI9 : (q : Int) < 90 := by omega
                have HQX : Hid (q < 90) := hlt
                have hwq : IntKind.u32.wrap ((q : Int) + 1) = (q : Int) + 1 := by rw [IntKind.wrap_u32]; omega
                have hqu : U32 (q : Int) := by unfold U32; omega
                have CL := Lib.hid (load_any lo hi p rb own LP (q : Int) wr HAS.out.sp HAS.out.shs hqu)
                have CM := Lib.hid fun (W : World) (hb : Below wr.heap.size wr W) => rload_any rb (.slice A2 n1 c2) (.slice Ak mk ck) own LL (q : Int) W (HAS.out.rs.below hb) HAS.out.sh hqu
                clear hlt hqu
                have hv := HV.out (q : Int)
                by_cases heq : q = an
                · have heqI : (q : Int) = (an : Int) := by omega
                  rw [if_pos heqI] at hv
                  rw [hv] at CL
                  have hz : ldV (q : Int) own LL = (u1, 0) := by rw [heqI]; exact HLV.out
                  rw [hz] at CM
                  dsimp only at CL CM
                  clear hv hz heqI
                  subst heq
                  go_wp2_with fail
                  refine CL.out.mono ?_
                  rintro e V1 ⟨rfl, bv1⟩
                  have HASV := Lib.hid (HAS.out.below bv1)
                  have q0 : V1.cell? ⟨b8, 0, none⟩ = some (.slice A2 n1 c2) := by have := (row_cell HASV.out.q 0).1; simpa using this
                  have q1 : V1.cell? ⟨b8, 1, none⟩ = some (.slice Ak mk ck) := by have := (row_cell HASV.out.q 1).1; simpa using this
                  clear CL
                  go_wp2_with fail
                  refine (CM.out V1 bv1).mono ?_
                  rintro e V2 ⟨rfl, bv2⟩
                  have HASW := Lib.hid (HASV.out.below bv2)
                  obtain ⟨b3, off3, b4, off4, c4, e3, h3, h4, h5, h6⟩ := sl_word HASW.out.rs.s HLI.out HUJ.out
                  have hijL : (j : Int) < (L.length : Int) := by omega
                  have him : (i : Int) < (mk : Int) := by omega
                  obtain ⟨Ln, hLn⟩ : ∃ Ln, L.length = Ln := ⟨_, rfl⟩
                  rw [hLn] at h4 hijL
                  subst e3
                  have g1 : V2.cell? ⟨b8, 1, none⟩ = some (.slice (some ⟨b3, off3, none⟩) mk ck) := by have := (row_cell HASW.out.q 1).1; simpa using this
                  clear h3 h5 hLn
                  clear CM bv1 bv2 q0 q1
                  go_wp2_with fail
                  go_roundw
                  case rel =>
                    have Q : Ap2Rel lo hi p rb b8 (some ⟨b, off, none⟩) n1 c1 (.slice A2 n1 c2) (.slice (some ⟨b3, off3, none⟩) mk ck) own LP LL w (.int .u32 ((q : Int) + 1)) V2 := ⟨⟨q + 1, HQX.out, by simp, HASW.out⟩⟩
                    first | exact Q | ((repeat apply Exists.intro); exact ⟨Q, rfl⟩)
                  case measure => have := HQX.out; simp [intOf]; omega
                · have heqI : ¬ ((q : Int) = (an : Int)) := by omega
                  rw [if_neg heqI] at hv
                  obtain ⟨⟨z, g⟩, hz⟩ : ∃ z, ldV (q : Int) own LL = z := ⟨_, rfl⟩
                  rw [hz] at hv CM
                  rw [hv] at CL
                  dsimp only at CL CM
                  clear hv hz
                  go_wp2_with fail
                  refine CL.out.mono ?_
                  rintro e V1 ⟨rfl, bv1⟩
                  have HASV := Lib.hid (HAS.out.below bv1)
                  have q0 : V1.cell? ⟨b8, 0, none⟩ = some (.slice A2 n1 c2) := by have := (row_cell HASV.out.q 0).1; simpa using this
                  have q1 : V1.cell? ⟨b8, 1, none⟩ = some (.slice Ak mk ck) := by have := (row_cell HASV.out.q 1).1; simpa using this
                  clear CL
                  go_wp2_with fail
                  refine (CM.out V1 bv1).mono ?_
                  rintro e V2 ⟨rfl, bv2⟩
                  have HASW := Lib.hid (HASV.out.below bv2)
                  clear CM bv1 bv2 q0 q1
                  go_wp2_with fail
                  go_roundw
                  case rel =>
                    have Q : Ap2Rel lo hi p rb b8 (some ⟨b, off, none⟩) n1 c1 (.slice A2 n1 c2) (.slice Ak mk ck) own LP LL w (.int .u32 ((q : Int) + 1)) V2 := ⟨⟨q + 1, HQX.out, by simp, HASW.out⟩⟩
                    first | exact Q | ((repeat apply Exists.intro); exact ⟨Q, rfl⟩)
                  case measure => have := HQX.out; simp [intOf]; omega
              · have hqn : q = 90 := by have := HQN.out; omega
                subst hqn
                clear hlt
                go_wp2_with fail
                go_ret
                exact ⟨rfl, HUW.out.trans (HAS.out.bel.mono HUW.out.size)⟩
    · have hln2 : ¬ ((k : Int) < (n1 : Int)) := by omega
      clear hlt
      have hau : U32 (an : Int) := by have := HAN.out; unfold U32; omega
      have CS := Lib.hid (store_any lo hi p rb own LL (an : Int) y1 wr HAS.out.sp HAS.out.sh hau)
      have CT := Lib.hid fun (W : World) (h : St rb W 5 (.slice A2 n1 c2) own.length (CA own)) => rat_any rb (.slice A2 n1 c2) Ak mk ck own (an : Int) W h HAS.out.sh.good HAS.out.sh.few hau
      clear hau
      rcases hat : atL (an : Int) own 0 with _ | ⟨i, j⟩
      · have hst : stV (an : Int) y1 own LL = (LL, 2) := by unfold stV; rw [hat]
        have hrt : rtV (an : Int) own = (-1, 0) := by unfold rtV; rw [hat]
        rw [hst] at CS
        rw [hrt] at CT
        dsimp only at CS CT
        clear hst hrt hat
        go_wp2_with fail
        refine CS.out.mono ?_
        rintro e W6 ⟨rfl, hsp6, hp6⟩
        have HAS6 : Hid (AS lo hi p rb b8 A1 n1 c1 (.slice A2 n1 c2) (.slice Ak mk ck) own LL LL w W6) := HAS.out.acts HRBW.out hp6 hsp6 HAS.out.sh
        have q0 : W6.cell? ⟨b8, 0, none⟩ = some (.slice A2 n1 c2) := by have := (row_cell HAS6.out.q 0).1; simpa using this
        have q1 : W6.cell? ⟨b8, 1, none⟩ = some (.slice Ak mk ck) := by have := (row_cell HAS6.out.q 1).1; simpa using this
        clear hsp6 hp6 CS
        go_wp2_with fail
        refine (CT.out W6 HAS6.out.rs.a).mono ?_
        rintro e W7 ⟨rfl, b7⟩
        have HAS7 := Lib.hid (HAS6.out.below b7)
        clear b7 CT q0 q1 HAS6
        go_wp2_with fail
        go_loopw [19] (fun v wr => Ap2Rel lo hi p rb b8 A1 n1 c1 (.slice A2 n1 c2) (.slice Ak mk ck) own LL LL w v wr) (fun v => fun _ => 90 - (intOf v).toNat)
        case atStart => exact ⟨⟨0, Nat.zero_le _, rfl, HAS7.out⟩⟩
        case round =>
          clear HAS7
          obtain ⟨⟨q, hq1, rfl, has⟩⟩ := hrel
          have HQN := Lib.hid hq1
          have HAS := Lib.hid has
          clear hq1 has
          by_cases hlt : q < 90
          · have hkI9 : (q : Int) < 90 := by omega
            have HQX : Hid (q < 90) := hlt
            have hwq : IntKind.u32.wrap ((q : Int) + 1) = (q : Int) + 1 := by rw [IntKind.wrap_u32]; omega
            have hqu : U32 (q : Int) := by unfold U32; omega
            have CL := Lib.hid (load_any lo hi p rb own LL (q : Int) wr HAS.out.sp HAS.out.shs hqu)
            have CM := Lib.hid fun (W : World) (hb : Below wr.heap.size wr W) => rload_any rb (.slice A2 n1 c2) (.slice Ak mk ck) own LL (q : Int) W (HAS.out.rs.below hb) HAS.out.sh hqu
            clear hlt hqu
            obtain ⟨⟨z, g⟩, hz⟩ : ∃ z, ldV (q : Int) own LL = z := ⟨_, rfl⟩
            rw [hz] at CL CM
            dsimp only at CL CM
            clear hz
            by_cases heq : q = an
            · subst heq
              go_wp2_with fail
              refine CL.out.mono ?_
              rintro e V1 ⟨rfl, bv1⟩
              have HASV := Lib.hid (HAS.out.below bv1)
              have q0 : V1.cell? ⟨b8, 0, none⟩ = some (.slice A2 n1 c2) := by have := (row_cell HASV.out.q 0).1; simpa using this
              have q1 : V1.cell? ⟨b8, 1, none⟩ = some (.slice Ak mk ck) := by have := (row_cell HASV.out.q 1).1; simpa using this
              clear CL
              go_wp2_with fail
              refine (CM.out V1 bv1).mono ?_
              rintro e V2 ⟨rfl, bv2⟩
              have HASW := Lib.hid (HASV.out.below bv2)
              clear CM bv1 bv2 q0 q1
              go_wp2_with fail
              go_roundw
              case rel =>
                have Q : Ap2Rel lo hi p rb b8 A1 n1 c1 (.slice A2 n1 c2) (.slice Ak mk ck) own LL LL w (.int .u32 ((q : Int) + 1)) V2 := ⟨⟨q + 1, HQX.out, by simp, HASW.out⟩⟩
                first | exact Q | ((repeat apply Exists.intro); exact ⟨Q, rfl⟩)
              case measure => have := HQX.out; simp [intOf]; omega
            · have heqI : ¬ ((q : Int) = (an : Int)) := by omega
              go_wp2_with fail
              refine CL.out.mono ?_
              rintro e V1 ⟨rfl, bv1⟩
              have HASV := Lib.hid (HAS.out.below bv1)
              have q0 : V1.cell? ⟨b8, 0, none⟩ = some (.slice A2 n1 c2) := by have := (row_cell HASV.out.q 0).1; simpa using this
              have q1 : V1.cell? ⟨b8, 1, none⟩ = some (.slice Ak mk ck) := by have := (row_cell HASV.out.q 1).1; simpa using this
              clear CL
              go_wp2_with fail
              refine (CM.out V1 bv1).mono ?_
              rintro e V2 ⟨rfl, bv2⟩
              have HASW := Lib.hid (HASV.out.below bv2)
              clear CM bv1 bv2 q0 q1
              go_wp2_with fail
              go_roundw
              case rel =>
                have Q : Ap2Rel lo hi p rb b8 A1 n1 c1 (.slice A2 n1 c2) (.slice Ak mk ck) own LL LL w (.int .u32 ((q : Int) + 1)) V2 := ⟨⟨q + 1, HQX.out, by simp, HASW.out⟩⟩
                first | exact Q | ((repeat apply Exists.intro); exact ⟨Q, rfl⟩)
              case measure => have := HQX.out; simp [intOf]; omega
          · have hqn : q = 90 := by have := HQN.out; omega
            subst hqn
            clear hlt
            go_wp2_with fail
            go_ret
            exact ⟨rfl, HUW.out.trans (HAS.out.bel.mono HUW.out.size)⟩
      · obtain ⟨x, L, u1, h1, h2, h3, h4, h5, h6⟩ := HAS.out.sh.at_ hat
        have hrt : rtV (an : Int) own = ((i : Int), (j : Int)) := by unfold rtV; rw [hat]
        have hfd : fdA (an : Int) own = x := by unfold fdA; rw [hat]; dsimp only; rw [h1]; rfl
        have HLV : Hid (ldV (an : Int) own LL = (u1, 0)) := ldV_of hat h2 h3
        have HIN : Hid (i < n1) := by rw [← HN1.out]; exact (List.getElem?_eq_some_iff.1 h1).1
        have hiI : (i : Int) < (n1 : Int) := by have := HIN.out; omega
        have hi0 : (0 : Int) ≤ (i : Int) := by omega
        have hj0 : (0 : Int) ≤ (j : Int) := by omega
        have HXI := Lib.hid h1
        have HLI := Lib.hid h2
        have HUJ := Lib.hid h3
        rw [hrt] at CT
        dsimp only at CT
        have HVV := Lib.hid fun (p : Int) => ldV_put HAS.out.sh (p := p) (y := y1) hat
        have hst : stV (an : Int) y1 own LL = if x.wr = false then (LL, 11) else (putL LL i j y1, 0) := by unfold stV; rw [hat]; dsimp only; rw [hfd]
        rw [hst] at CS
        have HSHP := Lib.hid (HAS.out.sh.put i j HY1.out)
        obtain ⟨xf, xw, xv, xr, xk⟩ := x
        dsimp only at CS
        clear hst hrt hat h1 h2 h3 h4 h5 h6 hfd
        cases xv
        · rw [if_pos rfl] at CS
          dsimp only at CS
          go_wp2_with fail
          refine CS.out.mono ?_
          rintro e W6 ⟨rfl, hsp6, hp6⟩
          have HAS6 : Hid (AS lo hi p rb b8 A1 n1 c1 (.slice A2 n1 c2) (.slice Ak mk ck) own LL LL w W6) := HAS.out.acts HRBW.out hp6 hsp6 HAS.out.sh
          have q0 : W6.cell? ⟨b8, 0, none⟩ = some (.slice A2 n1 c2) := by have := (row_cell HAS6.out.q 0).1; simpa using this
          have q1 : W6.cell? ⟨b8, 1, none⟩ = some (.slice Ak mk ck) := by have := (row_cell HAS6.out.q 1).1; simpa using this
          clear hsp6 hp6 CS
          go_wp2_with fail
          refine (CT.out W6 HAS6.out.rs.a).mono ?_
          rintro e W7 ⟨rfl, b7⟩
          have HAS7 := Lib.hid (HAS6.out.below b7)
          clear b7 CT q0 q1 HAS6
          obtain ⟨hm1, b, off, e1, hbl, hg, hc⟩ := HAS7.out.st.at_ HIN.out
          clear hm1
          have hca := CA_at HXI.out
          have d2 : W7.cell? ⟨b, off + i * 5 + 2, none⟩ = some (.bool false) := by have := hc _ _ (hca 2 _ rfl); simpa [Nat.add_assoc] using this
          subst e1
          clear hc hca hbl hg
          go_wp2_with fail
          go_loopw [19] (fun v wr => Ap2Rel lo hi p rb b8 (some ⟨b, off, none⟩) n1 c1 (.slice A2 n1 c2) (.slice Ak mk ck) own LL LL w v wr) (fun v => fun _ => 90 - (intOf v).toNat)
          case atStart => exact ⟨⟨0, Nat.zero_le _, rfl, HAS7.out⟩⟩
          case round =>
            clear HAS7
            obtain ⟨⟨q, hq1, rfl, has⟩⟩ := hrel
            have HQN := Lib.hid hq1
            have HAS := Lib.hid has
            clear hq1 has
            by_cases hlt : q < 90
            · have hkI9 : (q : Int) < 90 := by omega
              have HQX : Hid (q < 90) := hlt
              have hwq : IntKind.u32.wrap ((q : Int) + 1) = (q : Int) + 1 := by rw [IntKind.wrap_u32]; omega
              have hqu : U32 (q : Int) := by unfold U32; omega
              have CL := Lib.hid (load_any lo hi p rb own LL (q : Int) wr HAS.out.sp HAS.out.shs hqu)
              have CM := Lib.hid fun (W : World) (hb : Below wr.heap.size wr W) => rload_any rb (.slice A2 n1 c2) (.slice Ak mk ck) own LL (q : Int) W (HAS.out.rs.below hb) HAS.out.sh hqu
              clear hlt hqu
              obtain ⟨⟨z, g⟩, hz⟩ : ∃ z, ldV (q : Int) own LL = z := ⟨_, rfl⟩
              rw [hz] at CL CM
              dsimp only at CL CM
              clear hz
              by_cases heq : q = an
              · subst heq
                go_wp2_with fail
                refine CL.out.mono ?_
                rintro e V1 ⟨rfl, bv1⟩
                have HASV := Lib.hid (HAS.out.below bv1)
                have q0 : V1.cell? ⟨b8, 0, none⟩ = some (.slice A2 n1 c2) := by have := (row_cell HASV.out.q 0).1; simpa using this
                have q1 : V1.cell? ⟨b8, 1, none⟩ = some (.slice Ak mk ck) := by have := (row_cell HASV.out.q 1).1; simpa using this
                clear CL
                go_wp2_with fail
                refine (CM.out V1 bv1).mono ?_
                rintro e V2 ⟨rfl, bv2⟩
                have HASW := Lib.hid (HASV.out.below bv2)
                clear CM bv1 bv2 q0 q1
                go_wp2_with fail
                go_roundw
                case rel =>
                  have Q : Ap2Rel lo hi p rb b8 (some ⟨b, off, none⟩) n1 c1 (.slice A2 n1 c2) (.slice Ak mk ck) own LL LL w (.int .u32 ((q : Int) + 1)) V2 := ⟨⟨q + 1, HQX.out, by simp, HASW.out⟩⟩
                  first | exact Q | ((repeat apply Exists.intro); exact ⟨Q, rfl⟩)
                case measure => have := HQX.out; simp [intOf]; omega
              · have heqI : ¬ ((q : Int) = (an : Int)) := by omega
                go_wp2_with fail
                refine CL.out.mono ?_
                rintro e V1 ⟨rfl, bv1⟩
                have HASV := Lib.hid (HAS.out.below bv1)
                have q0 : V1.cell? ⟨b8, 0, none⟩ = some (.slice A2 n1 c2) := by have := (row_cell HASV.out.q 0).1; simpa using this
                have q1 : V1.cell? ⟨b8, 1, none⟩ = some (.slice Ak mk ck) := by have := (row_cell HASV.out.q 1).1; simpa using this
                clear CL
                go_wp2_with fail
                refine (CM.out V1 bv1).mono ?_
                rintro e V2 ⟨rfl, bv2⟩
                have HASW := Lib.hid (HASV.out.below bv2)
                clear CM bv1 bv2 q0 q1
                go_wp2_with fail
                go_roundw
                case rel =>
                  have Q : Ap2Rel lo hi p rb b8 (some ⟨b, off, none⟩) n1 c1 (.slice A2 n1 c2) (.slice Ak mk ck) own LL LL w (.int .u32 ((q : Int) + 1)) V2 := ⟨⟨q + 1, HQX.out, by simp, HASW.out⟩⟩
                  first | exact Q | ((repeat apply Exists.intro); exact ⟨Q, rfl⟩)
                case measure => have := HQX.out; simp [intOf]; omega
            · have hqn : q = 90 := by have := HQN.out; omega
              subst hqn
              clear hlt
              go_wp2_with fail
              go_ret
              exact ⟨rfl, HUW.out.trans (HAS.out.bel.mono HUW.out.size)⟩
        · rw [if_neg (by simp)] at CS
          dsimp only at CS
          obtain ⟨LP, hLP⟩ : ∃ LP, putL LL i j y1 = LP := ⟨_, rfl⟩
          have HV : Hid (∀ p : Int, ldV p own LP = if p = (an : Int) then (y1, 0) else ldV p own LL) := by rw [← hLP]; exact HVV.out
          rw [hLP] at CS HSHP
          clear HVV hLP
          go_wp2_with fail
          refine CS.out.mono ?_
          rintro e W6 ⟨rfl, hsp6, hp6⟩
          have HAS6 : Hid (AS lo hi p rb b8 A1 n1 c1 (.slice A2 n1 c2) (.slice Ak mk ck) own LP LL w W6) := HAS.out.acts HRBW.out hp6 hsp6 HSHP.out
          have q0 : W6.cell? ⟨b8, 0, none⟩ = some (.slice A2 n1 c2) := by have := (row_cell HAS6.out.q 0).1; simpa using this
          have q1 : W6.cell? ⟨b8, 1, none⟩ = some (.slice Ak mk ck) := by have := (row_cell HAS6.out.q 1).1; simpa using this
          clear hsp6 hp6 CS
          go_wp2_with fail
          refine (CT.out W6 HAS6.out.rs.a).mono ?_
          rintro e W7 ⟨rfl, b7⟩
          have HAS7 := Lib.hid (HAS6.out.below b7)
          clear b7 CT q0 q1 HAS6
          obtain ⟨hm1, b, off, e1, hbl, hg, hc⟩ := HAS7.out.st.at_ HIN.out
          clear hm1
          have hca := CA_at HXI.out
          have d2 : W7.cell? ⟨b, off + i * 5 + 2, none⟩ = some (.bool true) := by have := hc _ _ (hca 2 _ rfl); simpa [Nat.add_assoc] using this
          subst e1
          clear hc hca hbl hg
          go_wp2_with fail
          go_loopw [19] (fun v wr => Ap2Rel lo hi p rb b8 (some ⟨b, off, none⟩) n1 c1 (.slice A2 n1 c2) (.slice Ak mk ck) own LP LL w v wr) (fun v => fun _ => 90 - (intOf v).toNat)
          case atStart => exact ⟨⟨0, Nat.zero_le _, rfl, HAS7.out⟩⟩
          case round =>
            clear HAS7
            obtain ⟨⟨q, hq1, rfl, has⟩⟩ := hrel
            have HQN := Lib.hid hq1
            have HAS := Lib.hid has
            clear hq1 has
            by_cases hlt : q < 90
            · have hkI9 : (q : Int) < 90 := by omega
              have HQX : Hid (q < 90) := hlt
              have hwq : IntKind.u32.wrap ((q : Int) + 1) = (q : Int) + 1 := by rw [IntKind.wrap_u32]; omega
              have hqu : U32 (q : Int) := by unfold U32; omega
              have CL := Lib.hid (load_any lo hi p rb own LP (q : Int) wr HAS.out.sp HAS.out.shs hqu)
              have CM := Lib.hid fun (W : World) (hb : Below wr.heap.size wr W) => rload_any rb (.slice A2 n1 c2) (.slice Ak mk ck) own LL (q : Int) W (HAS.out.rs.below hb) HAS.out.sh hqu
              clear hlt hqu
              have hv := HV.out (q : Int)
              by_cases heq : q = an
              · have heqI : (q : Int) = (an : Int) := by omega
                rw [if_pos heqI] at hv
                rw [hv] at CL
                have hz : ldV (q : Int) own LL = (u1, 0) := by rw [heqI]; exact HLV.out
                rw [hz] at CM
                dsimp only at CL CM
                clear hv hz heqI
                subst heq
                go_wp2_with fail
                refine CL.out.mono ?_
                rintro e V1 ⟨rfl, bv1⟩
                have HASV := Lib.hid (HAS.out.below bv1)
                have q0 : V1.cell? ⟨b8, 0, none⟩ = some (.slice A2 n1 c2) := by have := (row_cell HASV.out.q 0).1; simpa using this
                have q1 : V1.cell? ⟨b8, 1, none⟩ = some (.slice Ak mk ck) := by have := (row_cell HASV.out.q 1).1; simpa using this
                clear CL
                go_wp2_with fail
                refine (CM.out V1 bv1).mono ?_
                rintro e V2 ⟨rfl, bv2⟩
                have HASW := Lib.hid (HASV.out.below bv2)
                obtain ⟨b3, off3, b4, off4, c4, e3, h3, h4, h5, h6⟩ := sl_word HASW.out.rs.s HLI.out HUJ.out
                have hijL : (j : Int) < (L.length : Int) := by omega
                have him : (i : Int) < (mk : Int) := by omega
                obtain ⟨Ln, hLn⟩ : ∃ Ln, L.length = Ln := ⟨_, rfl⟩
                rw [hLn] at h4 hijL
                subst e3
                have g1 : V2.cell? ⟨b8, 1, none⟩ = some (.slice (some ⟨b3, off3, none⟩) mk ck) := by have := (row_cell HASW.out.q 1).1; simpa using this
                clear h3 h5 hLn
                clear CM bv1 bv2 q0 q1
                go_wp2_with fail
                go_roundw
                case rel =>
                  have Q : Ap2Rel lo hi p rb b8 (some ⟨b, off, none⟩) n1 c1 (.slice A2 n1 c2) (.slice (some ⟨b3, off3, none⟩) mk ck) own LP LL w (.int .u32 ((q : Int) + 1)) V2 := ⟨⟨q + 1, HQX.out, by simp, HASW.out⟩⟩
                  first | exact Q | ((repeat apply Exists.intro); exact ⟨Q, rfl⟩)
                case measure => have := HQX.out; simp [intOf]; omega
              · have heqI : ¬ ((q : Int) = (an : Int)) := by omega
                rw [if_neg heqI] at hv
                obtain ⟨⟨z, g⟩, hz⟩ : ∃ z, ldV (q : Int) own LL = z := ⟨_, rfl⟩
                rw [hz] at hv CM
                rw [hv] at CL
                dsimp only at CL CM
                clear hv hz
                go_wp2_with fail
                refine CL.out.mono ?_
                rintro e V1 ⟨rfl, bv1⟩
                have HASV := Lib.hid (HAS.out.below bv1)
                have q0 : V1.cell? ⟨b8, 0, none⟩ = some (.slice A2 n1 c2) := by have := (row_cell HASV.out.q 0).1; simpa using this
                have q1 : V1.cell? ⟨b8, 1, none⟩ = some (.slice Ak mk ck) := by have := (row_cell HASV.out.q 1).1; simpa using this
                clear CL
                go_wp2_with fail
                refine (CM.out V1 bv1).mono ?_
                rintro e V2 ⟨rfl, bv2⟩
                have HASW := Lib.hid (HASV.out.below bv2)
                clear CM bv1 bv2 q0 q1
                go_wp2_with fail
                go_roundw
                case rel =>
                  have Q : Ap2Rel lo hi p rb b8 (some ⟨b, off, none⟩) n1 c1 (.slice A2 n1 c2) (.slice Ak mk ck) own LP LL w (.int .u32 ((q : Int) + 1)) V2 := ⟨⟨q + 1, HQX.out, by simp, HASW.out⟩⟩
                  first | exact Q | ((repeat apply Exists.intro); exact ⟨Q, rfl⟩)
                case measure => have := HQX.out; simp [intOf]; omega
            · have hqn : q = 90 := by have := HQN.out; omega
              subst hqn
              clear hlt
              go_wp2_with fail
              go_ret
              exact ⟨rfl, HUW.out.trans (HAS.out.bel.mono HUW.out.size)⟩
end Go.Proofs.Ytliggejkpmlgfaa
