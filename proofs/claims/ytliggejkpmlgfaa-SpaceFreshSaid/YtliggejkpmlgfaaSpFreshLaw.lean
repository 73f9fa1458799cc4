/-
  The walk of SpaceFresh. Each statement bears its own conditions.
-/
import Derived.Test.YtliggejkpmlgfaaSpZ
namespace Go.Proofs.Ytliggejkpmlgfaa
open Go.RowKit
set_option linter.unusedVariables false
set_option linter.unusedSimpArgs false
def fw (ww : Int) (k : Nat) : Int := IntKind.u32.wrap (ww + (k : Int))
theorem fw_ok (ww : Int) (k : Nat) : U32 (fw ww k) := by
  unfold fw U32
  rw [IntKind.wrap_u32]
  omega
/-- What was filled so far. -/
def Full (ww : Int) (LL : List (List Int)) (i k : Nat) : Prop := ∀ (i' k' : Nat) L u, LL[i']? = some L → L[k']? = some u → (i' < i ∨ (i' = i ∧ k' < k)) → u = fw ww k'
theorem Full.put {ww : Int} {LL : List (List Int)} {i k : Nat} {L : List Int} (h : Full ww LL i k) (hL : LL[i]? = some L) (hk : k < L.length) : Full ww (putL LL i k (fw ww k)) i (k + 1) := by
  intro i' k' M u hM hu hlt
  by_cases hi : i = i'
  · subst hi
    rw [putL_same hL hk] at hM
    injection hM with hM
    subst hM
    by_cases hkk : k = k'
    · subst hkk
      rw [List.getElem?_set_self hk] at hu
      injection hu with hu
      exact hu.symm
    · rw [List.getElem?_set_ne hkk] at hu
      exact h i k' L u hL hu (by omega)
  · rw [putL_other hi] at hM
    exact h i' k' M u hM hu (by omega)
theorem Full.next {ww : Int} {LL : List (List Int)} {i k : Nat} {L : List Int} (h : Full ww LL i k) (hL : LL[i]? = some L) (hk : L.length ≤ k) : Full ww LL (i + 1) 0 := by
  intro i' k' M u hM hu hlt
  by_cases hi : i' = i
  · subst hi
    rw [hL] at hM
    injection hM with hM
    subst hM
    have := (List.getElem?_eq_some_iff.1 hu).1
    exact h i' k' L u hL hu (by omega)
  · exact h i' k' M u hM hu (by omega)
theorem frS_get {l : List MA} {LL : List (List Int)} (hs : Sh l LL) (keep : Bool) : ∀ (n i : Nat) x L, l[i]? = some x → LL[i]? = some L → (frS keep l LL n)[i]? = some (if i < n ∧ ¬ (keep = true ∧ x.kp = true) then List.replicate L.length 0 else L)
  | 0, i, x, L, hx, hL => by rw [if_neg (by omega)]; exact hL
  | n + 1, i, x, L, hx, hL => by
    have ih := frS_get hs keep n
    by_cases hi : i = n
    · subst hi
      obtain ⟨M, h1, h2, h3⟩ := hs.freshAt (keep := keep) hx
      have h4 := ih i x L hx hL
      rw [if_neg (by omega), h1] at h4
      injection h4 with h4
      subst h4
      rw [h3]
      by_cases hk : keep = true ∧ x.kp = true
      · rw [if_pos hk, if_neg (by simp [hk]), h1]
      · rw [if_neg hk, if_pos ⟨by omega, hk⟩, List.getElem?_set_self (List.getElem?_eq_some_iff.1 h1).1]
    · have h4 := ih i x L hx hL
      have h5 : (frS keep l LL (n + 1))[i]? = (frS keep l LL n)[i]? := by
        rw [frS]
        split
        next y M hy hM =>
          split
          · rfl
          · rw [List.getElem?_set_ne (by omega)]
        · rfl
      rw [h5, h4]
      congr 1
      by_cases hin : i < n
      · by_cases hk : keep = true ∧ x.kp = true
        · rw [if_neg (by simp [hk]), if_neg (by simp [hk])]
        · rw [if_pos ⟨hin, hk⟩, if_pos ⟨by omega, hk⟩]
      · rw [if_neg (by omega), if_neg (by omega)]
theorem fresh_val {l : List MA} {LL : List (List Int)} (hs : Sh l LL) (ho : ovL [] l = false) {ww : Int} (hf : Full ww LL l.length 0) {keep : Bool} {i k : Nat} {x : MA} (hx : l[i]? = some x) (hk : (k : Int) < x.wds) :
    ldV (x.frm + k) l (frS keep l LL l.length) = (if keep = true ∧ x.kp = true then fw ww k else 0, 0) := by
  have hat := at_own ho hx hk
  have hil := (List.getElem?_eq_some_iff.1 hx).1
  have hL : LL[i]? = some (LL[i]'(by rw [hs.len]; exact hil)) := List.getElem?_eq_getElem _
  obtain ⟨L, hLe⟩ : ∃ L, LL[i]'(by rw [hs.len]; exact hil) = L := ⟨_, rfl⟩
  rw [hLe] at hL
  have hlw := hs.each i x L hx hL
  have hg := frS_get hs keep l.length i x L hx hL
  by_cases hkp : keep = true ∧ x.kp = true
  · rw [if_pos hkp]
    rw [if_neg (by simp [hkp])] at hg
    have hu := List.getElem?_eq_getElem (l := L) (i := k) (by omega)
    rw [ldV_of hat hg hu, hf i k L _ hL hu (Or.inl hil)]
  · rw [if_neg hkp]
    rw [if_pos ⟨hil, hkp⟩] at hg
    exact ldV_of hat hg (by rw [List.getElem?_replicate, if_pos (by omega)])
/-- A space in memory, with the areas that it was made of. -/
structure FS (lo hi p rb : Nat) (A1 : Option Addr) (n1 c1 : Nat) (own : List MA) (LL : List (List Int)) (w wr : World) : Prop where
  sp : SP lo hi wr p rb own LL.flatten
  sh : Sh own LL
  st : St rb wr 5 (.slice A1 n1 c1) n1 (CA own)
  bel : Below w.heap.size w wr
theorem FS.below {lo hi p rb : Nat} {A1 : Option Addr} {n1 c1 : Nat} {own : List MA} {LL : List (List Int)} {w wr wr' : World} (h : FS lo hi p rb A1 n1 c1 own LL w wr) (hb : Below wr.heap.size wr wr') : FS lo hi p rb A1 n1 c1 own LL w wr' :=
  ⟨h.sp.below hb, h.sh, h.st.below hb, h.bel.trans (hb.mono h.bel.size)⟩
theorem FS.past {lo hi p rb : Nat} {A1 : Option Addr} {n1 c1 : Nat} {own : List MA} {LL LL' : List (List Int)} {w wr wr' : World} (h : FS lo hi p rb A1 n1 c1 own LL w wr) (hrb : w.heap.size ≤ rb) (hp : Past rb wr wr') (hsp : SP lo hi wr' p rb own LL'.flatten) (hsh : Sh own LL') : FS lo hi p rb A1 n1 c1 own LL' w wr' :=
  ⟨hsp, hsh, h.st.past hp, h.bel.trans (hp.below hrb h.bel.size)⟩
structure Fr1Rel (ww : Int) (lo hi p rb : Nat) (A1 : Option Addr) (n1 c1 : Nat) (own : List MA) (w : World) (v : Value) (wr : World) : Prop where
  ex : ∃ (i : Nat) (LL : List (List Int)), i ≤ n1 ∧ v = .int .i64 (i : Int) ∧ FS lo hi p rb A1 n1 c1 own LL w wr ∧ Full ww LL i 0
structure Fr2Rel (ww : Int) (lo hi p rb : Nat) (A1 : Option Addr) (n1 c1 : Nat) (own : List MA) (w : World) (i xn : Nat) (v : Value) (wr : World) : Prop where
  ex : ∃ (k : Nat) (LL : List (List Int)), k ≤ xn ∧ v = .int .i64 (k : Int) ∧ FS lo hi p rb A1 n1 c1 own LL w wr ∧ Full ww LL i k
structure Fr3Rel (lo hi p rb : Nat) (A1 : Option Addr) (n1 c1 : Nat) (own : List MA) (LL : List (List Int)) (w : World) (n : Nat) (v : Value) (wr : World) : Prop where
  ex : ∃ k : Nat, k ≤ n ∧ v = .int .i64 (k : Int) ∧ FS lo hi p rb A1 n1 c1 own LL w wr
set_option maxRecDepth 100000 in
set_option maxHeartbeats 16000000 in
theorem fresh_walk (A : Option Addr) (n c : Nat) (ww : Int) (keep : Bool) (l : List MA) (w : World) (hl : Row w 5 RAq (.slice A n c) l) (hw : U32 ww) :
    Calls Try.prog 6 #[.slice A n c, .int .u32 ww, .bool keep] w fun e w' => e = .returned (.bool true) ∧ Below w.heap.size w w' := by
  have HL : Hid (St w.heap.size w 5 (.slice A n c) l.length (CA l)) := by
    obtain ⟨h1, _, h2⟩ := row_areas hl
    unfold Hid; rw [h1]; exact h2 _ (Nat.le_refl _)
  clear hl
  go_enter Try.func6, Try.ntmps6
  go_wp2_with fail
  refine (fix_any w.heap.size _ l w HL.out).mono ?_
  rintro e W1 ⟨⟨own, A1, c1, a1, rfl, hown1, ho1⟩, b1⟩
  obtain ⟨n1, hn1⟩ : ∃ n1, own.length = n1 := ⟨_, rfl⟩
  rw [hn1] at ho1 ⊢
  have HOWN := Lib.hid hown1
  have HN1 := Lib.hid hn1
  have HO1 := Lib.hid ho1
  have HB1 := Lib.hid b1
  have HN6 : Hid (n1 ≤ 6) := by have := hown1.few; unfold Hid; omega
  have hc1 : n1 ≤ c1 := own_cap ho1
  have HI64 : Hid (∀ x ∈ own, I64 x.frm ∧ I64 x.wds) := fun x hx => by have := hown1.each x hx; have := hown1.end_; have := hown1.few; unfold I64; omega
  clear hown1 hn1 ho1 b1
  go_wp2_with fail
  refine (new_any W1.heap.size A1 n1 c1 own W1 (St.of_own' HO1.out (fun k hk => by have := (HO1.out.lt k hk).2; omega)) HN1.out hc1 HI64.out (by have := HN6.out; omega)).mono ?_
  rintro e W2 ⟨_, hok, b2⟩
  obtain ⟨p, rb, rfl, hsp⟩ := hok HOWN.out.ok
  obtain ⟨lo, hlo⟩ : ∃ lo, W1.heap.size = lo := ⟨_, rfl⟩
  have HSH : Hid (Sh own (LL0 own)) := LL0_sh HOWN.out.ok
  have hzz : zeros own = (LL0 own).flatten := (LL0_flat HSH.out.good).symm
  rw [hzz] at hsp
  have HLO : Hid (w.heap.size ≤ lo) := by rw [← hlo]; exact HB1.out.size
  have HB2 : Hid (Below w.heap.size w W2) := HB1.out.trans (b2.mono HB1.out.size)
  have HST2 : Hid (St rb W2 5 (.slice A1 n1 c1) n1 (CA own)) := by
    have hrb := hsp.hr.1
    exact (St.of_own' HO1.out (fun k hk => by have := (HO1.out.lt k hk).2; omega)).below b2
  rw [hlo] at hsp
  obtain ⟨hi, hhi⟩ : ∃ hi, W2.heap.size = hi := ⟨_, rfl⟩
  have hhi2 := hsp.hs
  have HSP2 : Hid (SP lo hi W2 p rb own (LL0 own).flatten) := by rw [← hhi]; exact hsp
  have he : ∀ w : World, (binOp .eql 25 (.pointer (some ⟨p, 0, none⟩)) (.pointer none)).run Try.prog w = .ok (.bool false) w := fun _ => rfl
  have HHI : Hid (hi = W2.heap.size) := hhi.symm
  clear hok hsp b2 hlo hhi hzz hhi2 HO1
  have hn6 : n1 ≤ 6 := HN6.out
  go_wp2_with fail
  refine (told_any W2).mono ?_
  rintro e W4 ⟨rfl, b4⟩
  have HFS : Hid (FS lo hi p rb A1 n1 c1 own (LL0 own) w W4) := ⟨HSP2.out.below b4, HSH.out, HST2.out.below b4, HB2.out.trans (b4.mono HB2.out.size)⟩
  have HRBW : Hid (w.heap.size ≤ rb ∧ rb < hi) := by have := HSP2.out.hr; have := HLO.out; unfold Hid; omega
  have HF0 : Hid (Full ww (LL0 own) 0 0) := fun i' k' L u hL hu hlt => by omega
  clear b4 HSP2 HST2 HB2 HB1 HSH HHI
  go_wp2_with fail
  go_loopw [10] (fun v wr => Fr1Rel ww lo hi p rb A1 n1 c1 own w v wr) (fun v => fun _ => n1 - (intOf v).toNat)
  case atStart => exact ⟨⟨0, LL0 own, Nat.zero_le _, rfl, HFS.out, HF0.out⟩⟩
  case round =>
    clear HFS HF0
    obtain ⟨⟨i, LL, hi1, rfl, hfs, hfull⟩⟩ := hrel
    have HIN := Lib.hid hi1
    have HFS := Lib.hid hfs
    have HFU := Lib.hid hfull
    clear hi1 hfs hfull
    by_cases hlt : i < n1
    · have hkI : (i : Int) < (n1 : Int) := by omega
      have HX : Hid (i < n1) := hlt
      obtain ⟨hm1, b, off, e1, hbl, hg, hc⟩ := HFS.out.st.at_ hlt
      clear hm1
      subst e1
      have hxs : own[i]? = some (own[i]'(by have := HN1.out; omega)) := List.getElem?_eq_getElem _
      obtain ⟨x, hx⟩ : ∃ x, own[i]'(by have := HN1.out; omega) = x := ⟨_, rfl⟩
      rw [hx] at hxs
      have HXS := Lib.hid hxs
      have hgx := HOWN.out.each x (List.mem_of_getElem? hxs)
      have hend := HOWN.out.end_
      have hfew := HOWN.out.few
      have hca := CA_at hxs
      obtain ⟨xf, xw, xx, xr, xk⟩ := x
      dsimp only at hgx
      obtain ⟨xn, rfl⟩ : ∃ xn : Nat, xw = (xn : Int) := ⟨xw.toNat, by omega⟩
      have HGX : Hid (0 ≤ xf ∧ xf ≤ 96 ∧ 1 ≤ xn ∧ xn ≤ 12) := by unfold Hid; omega
      have hx12 : xn ≤ 12 := by omega
      clear hc hca hx hlt hbl hg hxs hgx hend hfew
      go_wp2_with fail
      obtain ⟨wo, hwo⟩ : ∃ wo, wo = wr := ⟨_, rfl⟩
      subst hwo
      go_loopw [11] (fun v wr => Fr2Rel ww lo hi p rb (some ⟨b, off, none⟩) n1 c1 own w i xn v wr) (fun v => fun _ => xn - (intOf v).toNat)
      case atStart => exact ⟨⟨0, LL, Nat.zero_le _, rfl, HFS.out, HFU.out⟩⟩
      case round =>
        clear HFS HFU
        obtain ⟨⟨k, LL, hk1, rfl, hfs, hfull⟩⟩ := hrel
        have HKN := Lib.hid hk1
        have HFS := Lib.hid hfs
        have HFU := Lib.hid hfull
        clear hk1 hfs hfull
        obtain ⟨hm1, b', off', e1, hbl, hg, hc⟩ := HFS.out.st.at_ HX.out
        clear hm1
        injection e1 with e1
        injection e1 with e1 e2
        subst e1 e2
        have hca := CA_at HXS.out
        have d0 : wr.cell? ⟨b, off + i * 5, none⟩ = some (.int .i64 xf) := by have := hc _ _ (hca 0 _ rfl); simpa [Nat.add_assoc] using this
        have d1 : wr.cell? ⟨b, off + i * 5 + 1, none⟩ = some (.int .i64 (xn : Int)) := by have := hc _ _ (hca 1 _ rfl); simpa [Nat.add_assoc] using this
        have hin : (i : Int) < (n1 : Int) := by have := HX.out; omega
        have hi0 : (0 : Int) ≤ (i : Int) := by omega
        by_cases hlt : k < xn
        · have hkI2 : (k : Int) < (xn : Int) := by omega
          have HKX : Hid (k < xn) := hlt
          have hw1 : IntKind.i64.wrap (xf + (k : Int)) = xf + (k : Int) := wrap_ok (by have := HGX.out; omega) (by have := HGX.out; omega)
          have hw2 : IntKind.u32.wrap (xf + (k : Int)) = xf + (k : Int) := by have := HGX.out; rw [IntKind.wrap_u32]; omega
          have hw3 : IntKind.u32.wrap (k : Int) = (k : Int) := by have := HGX.out; rw [IntKind.wrap_u32]; omega
          obtain ⟨y, hy⟩ : ∃ y, IntKind.u32.wrap (ww + (k : Int)) = y := ⟨_, rfl⟩
          have HYF : Hid (fw ww k = y) := hy
          have HYU : Hid (U32 y) := by unfold Hid; rw [← HYF.out]; exact fw_ok ww k
          have hat := at_own HOWN.out.over HXS.out (k := k) (by dsimp only; omega)
          dsimp only at hat
          obtain ⟨L, hL⟩ : ∃ L, LL[i]? = some L := ⟨_, List.getElem?_eq_getElem (by rw [HFS.out.sh.len]; have := HN1.out; have := HX.out; omega)⟩
          have hLl := HFS.out.sh.each i _ L HXS.out hL
          dsimp only at hLl
          have HFU2 : Hid (Full ww (putL LL i k y) i (k + 1)) := by
            have := HFU.out.put hL (by omega)
            rw [HYF.out] at this
            exact this
          have hfl : flV (xf + (k : Int)) own [y] LL = (putL LL i k y, 0) := by unfold flV fillGo; rw [hat]; rfl
          have HSH2 : Hid (Sh own (putL LL i k y)) := HFS.out.sh.put i k HYU.out
          have CF := Lib.hid fun (W : World) (hb : Below wr.heap.size wr W) (hst : St rb W 1 (.slice (some ⟨wr.heap.size, 0, none⟩) 1 1) 1 (CU [y])) => fill_any lo hi p rb own LL [y] (.slice (some ⟨wr.heap.size, 0, none⟩) 1 1) (xf + (k : Int)) W (HFS.out.sp.below hb) HFS.out.sh hst (fun x hx => by simp at hx; subst hx; exact HYU.out) (by simp) (by have := HGX.out; unfold U32; omega)
          rw [hfl] at CF
          dsimp only at CF
          clear hlt hc hca hbl hg hat hL hLl hfl
          go_wp2_with fail
          have bu : Below wr.heap.size wr (wr.alloc (.cells #[.int .u32 y] 39)) := (Below.refl _ _).alloc (Nat.le_refl _) _
          refine (CF.out _ bu (st_lit rb 1 1 (CU [y]) 39 wr rfl (by have h1 := HRBW.out; have h2 := HFS.out.sp.hs; omega))).mono ?_
          rintro e W5 ⟨rfl, hsp5, hp5⟩
          have HFS5 : Hid (FS lo hi p rb (some ⟨b, off, none⟩) n1 c1 own (putL LL i k y) w W5) := (HFS.out.below bu).past HRBW.out.1 hp5 hsp5 HSH2.out
          clear bu hsp5 hp5 CF d0 d1
          go_wp2_with fail
          go_roundw
          case rel =>
            have Q : Fr2Rel ww lo hi p rb (some ⟨b, off, none⟩) n1 c1 own w i xn (.int .i64 ((k : Int) + 1)) W5 := ⟨⟨k + 1, putL LL i k y, HKX.out, by go_num, HFS5.out, HFU2.out⟩⟩
            first | exact Q | ((repeat apply Exists.intro); exact ⟨Q, rfl⟩)
          case measure => have := HKX.out; have := HGX.out; simp [intOf]; omega
        · have hkx : k = xn := by have := HKN.out; omega
          subst hkx
          obtain ⟨L, hL⟩ : ∃ L, LL[i]? = some L := ⟨_, List.getElem?_eq_getElem (by rw [HFS.out.sh.len]; have := HN1.out; have := HX.out; omega)⟩
          have hLl := HFS.out.sh.each i _ L HXS.out hL
          dsimp only at hLl
          have HFN := Lib.hid (HFU.out.next hL (by omega))
          clear hlt hc hca hbl hg hL hLl
          go_wp2_with fail
          go_roundw
          case rel =>
            have Q : Fr1Rel ww lo hi p rb (some ⟨b, off, none⟩) n1 c1 own w (.int .i64 ((i : Int) + 1)) wr := ⟨⟨i + 1, LL, HX.out, by go_num, HFS.out, HFN.out⟩⟩
            first | exact Q | ((repeat apply Exists.intro); exact ⟨Q, rfl⟩)
          case measure => have := HX.out; have := HN6.out; simp [intOf]; omega
    · have hin : i = n1 := by have := HIN.out; omega
      subst hin
      clear hlt
      have HV := Lib.hid fun (q k : Nat) (x : MA) (hx : own[q]? = some x) (hk : (k : Int) < x.wds) => fresh_val (keep := keep) HFS.out.sh HOWN.out.over (by rw [HN1.out]; exact HFU.out) hx hk
      have CF := Lib.hid (fresh_any lo hi p rb own LL keep wr HFS.out.sp HFS.out.sh)
      have HSH2 := Lib.hid (HFS.out.sh.fresh keep own.length)
      obtain ⟨LF, hLF⟩ : ∃ LF, frS keep own LL own.length = LF := ⟨_, rfl⟩
      rw [hLF] at HV CF HSH2
      clear hLF
      go_wp2_with fail
      refine CF.out.mono ?_
      rintro e W5 ⟨rfl, hsp5, hp5⟩
      have HFS5 : Hid (FS lo hi p rb A1 i c1 own LF w W5) := HFS.out.past HRBW.out.1 hp5 hsp5 HSH2.out
      clear hsp5 hp5 CF HFS HFU
      go_wp2_with fail
      go_loopw [12] (fun v wr => Fr3Rel lo hi p rb A1 i c1 own LF w i v wr) (fun v => fun _ => i - (intOf v).toNat)
      case atStart => exact ⟨⟨0, Nat.zero_le _, rfl, HFS5.out⟩⟩
      case round =>
        clear HFS5
        obtain ⟨⟨q, hq1, rfl, hfs⟩⟩ := hrel
        have HQN := Lib.hid hq1
        have HFS := Lib.hid hfs
        clear hq1 hfs
        by_cases hlt : q < i
        · have hkI : (q : Int) < (i : Int) := by omega
          have HX : Hid (q < i) := hlt
          obtain ⟨hm1, b, off, e1, hbl, hg, hc⟩ := HFS.out.st.at_ hlt
          clear hm1
          subst e1
          have hxs : own[q]? = some (own[q]'(by have := HN1.out; omega)) := List.getElem?_eq_getElem _
          obtain ⟨x, hx⟩ : ∃ x, own[q]'(by have := HN1.out; omega) = x := ⟨_, rfl⟩
          rw [hx] at hxs
          have HXS := Lib.hid hxs
          have hgx := HOWN.out.each x (List.mem_of_getElem? hxs)
          have hend := HOWN.out.end_
          have hfew := HOWN.out.few
          have hca := CA_at hxs
          obtain ⟨xf, xw, xx, xr, xk⟩ := x
          dsimp only at hgx
          obtain ⟨xn, rfl⟩ : ∃ xn : Nat, xw = (xn : Int) := ⟨xw.toNat, by omega⟩
          have HGX : Hid (0 ≤ xf ∧ xf ≤ 96 ∧ 1 ≤ xn ∧ xn ≤ 12) := by unfold Hid; omega
          have hx12 : xn ≤ 12 := by omega
          clear hc hca hx hlt hbl hg hxs hgx hend hfew
          go_wp2_with fail
          obtain ⟨wo, hwo⟩ : ∃ wo, wo = wr := ⟨_, rfl⟩
          subst hwo
          go_loopw [13] (fun v wr => Fr3Rel lo hi p rb (some ⟨b, off, none⟩) i c1 own LF w xn v wr) (fun v => fun _ => xn - (intOf v).toNat)
          case atStart => exact ⟨⟨0, Nat.zero_le _, rfl, HFS.out⟩⟩
          case round =>
            clear HFS
            obtain ⟨⟨k, hk1, rfl, hfs⟩⟩ := hrel
            have HKN := Lib.hid hk1
            have HFS := Lib.hid hfs
            clear hk1 hfs
            obtain ⟨hm1, b', off', e1, hbl, hg, hc⟩ := HFS.out.st.at_ HX.out
            clear hm1
            injection e1 with e1
            injection e1 with e1 e2
            subst e1 e2
            have hca := CA_at HXS.out
            have d0 : wr.cell? ⟨b, off + q * 5, none⟩ = some (.int .i64 xf) := by have := hc _ _ (hca 0 _ rfl); simpa [Nat.add_assoc] using this
            have d1 : wr.cell? ⟨b, off + q * 5 + 1, none⟩ = some (.int .i64 (xn : Int)) := by have := hc _ _ (hca 1 _ rfl); simpa [Nat.add_assoc] using this
            have d4 : wr.cell? ⟨b, off + q * 5 + 4, none⟩ = some (.bool xk) := by have := hc _ _ (hca 4 _ rfl); simpa [Nat.add_assoc] using this
            have hin : (q : Int) < (i : Int) := by have := HX.out; omega
            have hi0 : (0 : Int) ≤ (q : Int) := by omega
            by_cases hlt : k < xn
            · have hkI2 : (k : Int) < (xn : Int) := by omega
              have HKX : Hid (k < xn) := hlt
              have hw1 : IntKind.i64.wrap (xf + (k : Int)) = xf + (k : Int) := wrap_ok (by have := HGX.out; omega) (by have := HGX.out; omega)
              have hw2 : IntKind.u32.wrap (xf + (k : Int)) = xf + (k : Int) := by have := HGX.out; rw [IntKind.wrap_u32]; omega
              have hw3 : IntKind.u32.wrap (k : Int) = (k : Int) := by have := HGX.out; rw [IntKind.wrap_u32]; omega
              obtain ⟨y, hy⟩ : ∃ y, IntKind.u32.wrap (ww + (k : Int)) = y := ⟨_, rfl⟩
              have HYF : Hid (fw ww k = y) := hy
              have CL := Lib.hid (load_any lo hi p rb own LF (xf + (k : Int)) wr HFS.out.sp HFS.out.sh (by have := HGX.out; unfold U32; omega))
              have hv := HV.out q k _ HXS.out (by dsimp only; omega)
              dsimp only at hv
              rw [HYF.out] at hv
              rw [hv] at CL
              dsimp only at CL
              clear hlt hc hca hbl hg hv
              cases keep with
              | false =>
                rw [if_neg (by simp)] at CL
                go_wp2_with fail
                refine CL.out.mono ?_
                rintro e W6 ⟨rfl, b6⟩
                have HFS6 := Lib.hid (HFS.out.below b6)
                clear b6 CL d0 d1 d4
                go_wp2_with fail
                go_roundw
                case rel =>
                  have Q : Fr3Rel lo hi p rb (some ⟨b, off, none⟩) i c1 own LF w xn (.int .i64 ((k : Int) + 1)) W6 := ⟨⟨k + 1, HKX.out, by go_num, HFS6.out⟩⟩
                  first | exact Q | ((repeat apply Exists.intro); exact ⟨Q, rfl⟩)
                case measure => have := HKX.out; have := HGX.out; simp [intOf]; omega
              | true =>
                cases xk with
                | false =>
                  rw [if_neg (by simp)] at CL
                  go_wp2_with fail
                  refine CL.out.mono ?_
                  rintro e W6 ⟨rfl, b6⟩
                  have HFS6 := Lib.hid (HFS.out.below b6)
                  clear b6 CL d0 d1 d4
                  go_wp2_with fail
                  go_roundw
                  case rel =>
                    have Q : Fr3Rel lo hi p rb (some ⟨b, off, none⟩) i c1 own LF w xn (.int .i64 ((k : Int) + 1)) W6 := ⟨⟨k + 1, HKX.out, by go_num, HFS6.out⟩⟩
                    first | exact Q | ((repeat apply Exists.intro); exact ⟨Q, rfl⟩)
                  case measure => have := HKX.out; have := HGX.out; simp [intOf]; omega
                | true =>
                  rw [if_pos ⟨rfl, rfl⟩] at CL
                  go_wp2_with fail
                  refine CL.out.mono ?_
                  rintro e W6 ⟨rfl, b6⟩
                  have HFS6 := Lib.hid (HFS.out.below b6)
                  clear b6 CL d0 d1 d4
                  go_wp2_with fail
                  go_roundw
                  case rel =>
                    have Q : Fr3Rel lo hi p rb (some ⟨b, off, none⟩) i c1 own LF w xn (.int .i64 ((k : Int) + 1)) W6 := ⟨⟨k + 1, HKX.out, by go_num, HFS6.out⟩⟩
                    first | exact Q | ((repeat apply Exists.intro); exact ⟨Q, rfl⟩)
                  case measure => have := HKX.out; have := HGX.out; simp [intOf]; omega
            · have hkx : k = xn := by have := HKN.out; omega
              subst hkx
              clear hlt hc hca hbl hg
              go_wp2_with fail
              go_roundw
              case rel =>
                have Q : Fr3Rel lo hi p rb (some ⟨b, off, none⟩) i c1 own LF w i (.int .i64 ((q : Int) + 1)) wr := ⟨⟨q + 1, HX.out, by go_num, HFS.out⟩⟩
                first | exact Q | ((repeat apply Exists.intro); exact ⟨Q, rfl⟩)
              case measure => have := HX.out; have := HN6.out; simp [intOf]; omega
        · have hqi : q = i := by have := HQN.out; omega
          subst hqi
          clear hlt
          go_wp2_with fail
          go_ret
          exact ⟨rfl, HFS.out.bel⟩
end Go.Proofs.Ytliggejkpmlgfaa
