/-
  The walk of SpaceClones. Each statement bears its own conditions.
-/
import Derived.Test.YtliggejkpmlgfaaSpZ
import Derived.LaidEqlPtr
namespace Go.Proofs.Ytliggejkpmlgfaa
open Go.RowKit
set_option linter.unusedVariables false
set_option linter.unusedSimpArgs false
theorem heap_of_cell {w : World} {g o : Nat} {v : Value} (h : w.cell? ⟨g, o, none⟩ = some v) : ∃ C t fr, w.heap[g]? = some (.cells C t fr) := by
  unfold World.cell? at h
  cases e : w.heap[g]? with
  | none => simp [e] at h
  | some ob =>
    cases ob with
    | cells C t fr => exact ⟨C, t, fr, rfl⟩
    | _ => simp [e] at h
theorem run_sameAddr_far {P : Program} {w : World} {g1 g2 o1 o2 : Nat} {v1 v2 : Value} (hbl : g1 ≠ g2) (c1 : w.cell? ⟨g1, o1, none⟩ = some v1) (c2 : w.cell? ⟨g2, o2, none⟩ = some v2) (f1 : ∀ o, w.frozen? ⟨g1, o, none⟩ = false) (f2 : ∀ o, w.frozen? ⟨g2, o, none⟩ = false) :
    (sameAddr ⟨g1, 0, none⟩ ⟨g2, 0, none⟩).run P w = .ok false w := by
  obtain ⟨C1, t1, r1, h1⟩ := heap_of_cell c1
  obtain ⟨C2, t2, r2, h2⟩ := heap_of_cell c2
  simp [sameAddr, hbl, noView, viewAt, World.shape?, mayBeOne, stringish, h1, h2, f1, f2]
theorem sp_info : (Try.prog.info? 71).map (fun i => decide (i.size = 0)) = some false := by kernel_rfl
theorem run_ptr_far {w : World} {g1 g2 o1 o2 : Nat} {v1 v2 : Value} (hbl : g1 ≠ g2) (c1 : w.cell? ⟨g1, o1, none⟩ = some v1) (c2 : w.cell? ⟨g2, o2, none⟩ = some v2) (f1 : ∀ o, w.frozen? ⟨g1, o, none⟩ = false) (f2 : ∀ o, w.frozen? ⟨g2, o, none⟩ = false) :
    (binOp .eql 25 (.pointer (some ⟨g1, 0, none⟩)) (.pointer (some ⟨g2, 0, none⟩))).run Try.prog w = .ok (.bool false) w := by
  have hp : Try.prog.underlying 25 = some (.pointer 71) := Try.underlying25
  have h0 := sp_info
  cases hte : Try.prog.info? 71 with
  | none => rw [hte] at h0; simp at h0
  | some j =>
    rw [hte] at h0
    simp only [Option.map_some, Option.some.injEq, decide_eq_false_iff_not] at h0
    have hsz : j.size ≠ 0 := h0
    have h : ∀ d : Nat, (Op.equalIn (d + 1) 25 (.pointer (some ⟨g1, 0, none⟩)) (.pointer (some ⟨g2, 0, none⟩))).run Try.prog w = .ok false w := fun d => by
      simp [Op.equalIn, run_underlying hp, sizeOf, typeInfo, hte, hsz, run_sameAddr_far hbl c1 c2 f1 f2]
    simp only [binOp]
    simp [Op.equal, Op.maxDepth, h 9999]
/-- Pointers of two spaces. -/
theorem sp_far {lo hi lo' hi' p rb p' rb' : Nat} {own : List MA} {ws ws' : List Int} {w : World} (h : SP lo hi w p rb own ws) (h' : SP lo' hi' w p' rb' own ws') (hne : p ≠ p') :
    (binOp .eql 25 (.pointer (some ⟨p, 0, none⟩)) (.pointer (some ⟨p', 0, none⟩))).run Try.prog w = .ok (.bool false) w := by
  obtain ⟨A, c, cap, h1, _⟩ := h.st
  obtain ⟨A', c', cap', h1', _⟩ := h'.st
  have a := (row_cell h1 0).1
  have b := (row_cell h1' 0).1
  simp at a b
  exact run_ptr_far hne a b (fun o => (row_cell h1 o).2) (fun o => (row_cell h1' o).2)
/-- A space in memory, and the one by value in a box of its own. -/
structure BS (lo hi p rb b8 : Nat) (va vl : Value) (own : List MA) (LL : List (List Int)) (w wr : World) : Prop where
  sp : SP lo hi wr p rb own LL.flatten
  sh : Sh own LL
  rs : RS rb wr va vl own LL
  rt : RS b8 wr va vl own LL
  q : wr.heap[b8]? = some (.cells #[va, vl] 31 (0, 0))
  bel : Below w.heap.size w wr
  ord : w.heap.size ≤ rb ∧ rb < hi ∧ hi ≤ b8
section
variable {lo hi p rb b8 g : Nat} {va vl vl' : Value} {own : List MA} {LL LL' : List (List Int)} {w w0 wr wr' : World}
theorem BS.below (h : BS lo hi p rb b8 va vl own LL w wr) (hb : Below wr.heap.size wr wr') : BS lo hi p rb b8 va vl own LL w wr' :=
  ⟨h.sp.below hb, h.sh, h.rs.below hb, h.rt.below hb, heap_keep hb h.q, h.bel.trans (hb.mono h.bel.size), h.ord⟩
theorem BS.cells (h : BS lo hi p rb b8 va vl own LL w wr) : wr.cell? ⟨b8, 0, none⟩ = some va ∧ wr.cell? ⟨b8, 1, none⟩ = some vl ∧ (∀ o, wr.frozen? ⟨b8, o, none⟩ = false) := by
  have h0 := (row_cell h.q 0).1
  have h1 := (row_cell h.q 1).1
  simp at h0 h1
  exact ⟨h0, h1, fun o => (row_cell h.q o).2⟩
theorem BS.lt (h : BS lo hi p rb b8 va vl own LL w wr) : rb < wr.heap.size ∧ b8 < wr.heap.size := by
  have := h.sp.hr.2; have := h.sp.hs; have := (Array.getElem?_eq_some_iff.1 h.q).1; omega
/-- A block written that is none of these. -/
theorem BS.other (h : BS lo hi p rb b8 va vl own LL w wr) (hr : RS g wr va vl own LL) (hg : hi ≤ g ∧ g ≠ b8) (hp : Past g wr wr') : BS lo hi p rb b8 va vl own LL w wr' :=
  ⟨h.sp.past hp (Or.inr hg.1), h.sh, h.rs.both hr hp, h.rt.both hr hp, hp_keep hp hg.2.symm h.q, h.bel.trans (hp.below (by have := h.ord; omega) h.bel.size), h.ord⟩
/-- Something done with both, and the result put in the box. -/
theorem BS.does (h : BS lo hi p rb b8 va vl own LL w w0) (hsp : SP lo hi wr p rb own LL'.flatten) (ht : Turns w0 wr va vl vl' own LL LL') (hs : Sh own LL') (hp : Past rb w0 wr) :
    BS lo hi p rb b8 va vl' own LL' w ((wr.setCell ⟨b8, 0, none⟩ va).setCell ⟨b8, 1, none⟩ vl') := by
  have PV : Past b8 wr ((wr.setCell ⟨b8, 0, none⟩ va).setCell ⟨b8, 1, none⟩ vl') := ((Past.refl _ _).setCell 0 _).setCell 1 _
  have r1 := ht rb h.lt.1 h.rs
  have r2 := ht b8 h.lt.2 h.rt
  have ho := h.ord
  have hq := hp_keep hp (by omega) h.q
  have hb := hp.below ho.1 h.bel.size
  refine ⟨hsp.past PV (Or.inr ho.2.2), hs, r1.both r2 PV, r2.past PV, ?_, (h.bel.trans hb).trans (PV.below (by omega) (h.bel.trans hb).size), ho⟩
  have h1 := set_at (set_at hq 0 va) 1 vl'
  simpa using h1
end
structure Cl1Rel (n : Nat) (lo hi p rb b8 : Nat) (va : Value) (own : List MA) (w : World) (v : Value) (wr : World) : Prop where
  ex : ∃ (k : Nat) (A : Option Addr) (m c : Nat) (LL : List (List Int)), k ≤ 50 ∧ k ≤ n ∧ v = .int .i64 (k : Int) ∧ BS lo hi p rb b8 va (.slice A m c) own LL w wr
structure Cl2Rel (n : Nat) (lo hi p rb b8 lo2 hi2 p2 rb2 b14 : Nat) (va vl : Value) (own : List MA) (L1 : List (List Int)) (w w1 : World) (v : Value) (wr : World) : Prop where
  ex : ∃ (k : Nat) (A : Option Addr) (m c : Nat) (LL : List (List Int)), k ≤ 50 ∧ k ≤ n ∧ v = .int .i64 (k : Int) ∧ BS lo hi p rb b8 va vl own L1 w wr ∧ BS lo2 hi2 p2 rb2 b14 va (.slice A m c) own LL w1 wr ∧ RS rb2 wr va vl own L1 ∧ RS b14 wr va vl own L1
theorem rsame_self (g g' : Nat) (v v' : Value) (a : List Int) (w : World) (h : St g w 1 v a.length (CU a)) (h' : St g' w 1 v' a.length (CU a)) (hm : a.length ≤ 5000) :
    Calls Try.prog 16 #[v, v'] w fun e w' => e = .returned (.bool true) ∧ Below w.heap.size w w' := by
  refine (rsame_any g g' v v' a a w h h' hm).mono ?_
  rintro e W ⟨rfl, hb⟩
  exact ⟨by simp, hb⟩
set_option maxRecDepth 100000 in
set_option maxHeartbeats 16000000 in
theorem clones_walk (A : Option Addr) (n c : Nat) (Ao : Option Addr) (no co : Nat) (At : Option Addr) (nt ct : Nat) (l : List MA) (ops ops2 : List MO) (w : World) (hl : Row w 5 RAq (.slice A n c) l) (ho : Row w 5 (RO w) (.slice Ao no co) ops) (ht : Row w 5 (RO w) (.slice At nt ct) ops2) :
    Calls Try.prog 7 #[.slice A n c, .slice Ao no co, .slice At nt ct] w fun e w' => e = .returned (.bool true) ∧ Below w.heap.size w w' := by
  have HL : Hid (St w.heap.size w 5 (.slice A n c) l.length (CA l)) := by
    obtain ⟨h1, _, h2⟩ := row_areas hl
    unfold Hid; rw [h1]; exact h2 _ (Nat.le_refl _)
  have HO := Lib.hid ho
  have HT := Lib.hid ht
  clear hl ho ht
  go_enter Try.func7, Try.ntmps7
  go_wp2_with fail
  refine (fix_any w.heap.size _ l w HL.out).mono ?_
  rintro e W1 ⟨⟨own, A1, c1, a1, rfl, hown1, ho1⟩, b1⟩
  obtain ⟨n1, hn1⟩ : ∃ n1, own.length = n1 := ⟨_, rfl⟩
  rw [hn1] at ho1 ⊢
  have HOWN := Lib.hid hown1
  have HN1 := Lib.hid hn1
  have HO1 := Lib.hid ho1
  have HB1 := Lib.hid b1
  have HN6 : Hid (n1 ≤ 6) := by have := hown1.few; unfold Hid; omega
  have hc1 : n1 ≤ c1 := own_cap ho1
  have HI64 : Hid (∀ x ∈ own, I64 x.frm ∧ I64 x.wds) := fun x hx => by have := hown1.each x hx; have := hown1.end_; have := hown1.few; unfold I64; omega
  clear hown1 hn1 ho1 b1
  go_wp2_with fail
  refine (new_any W1.heap.size A1 n1 c1 own W1 (St.of_own' HO1.out (fun k hk => by have := (HO1.out.lt k hk).2; omega)) HN1.out hc1 HI64.out (by have := HN6.out; omega)).mono ?_
  rintro e W2 ⟨_, hok, b2⟩
  obtain ⟨p, rb, rfl, hsp⟩ := hok HOWN.out.ok
  obtain ⟨lo, hlo⟩ : ∃ lo, W1.heap.size = lo := ⟨_, rfl⟩
  have HSH : Hid (Sh own (LL0 own)) := LL0_sh HOWN.out.ok
  have hzz : zeros own = (LL0 own).flatten := (LL0_flat HSH.out.good).symm
  rw [hzz] at hsp
  have HLO : Hid (w.heap.size ≤ lo) := by rw [← hlo]; exact HB1.out.size
  have HB2 : Hid (Below w.heap.size w W2) := HB1.out.trans (b2.mono HB1.out.size)
  have HST2 : Hid (St rb W2 5 (.slice A1 n1 c1) n1 (CA own)) := by
    have hrb := hsp.hr.1
    exact (St.of_own' HO1.out (fun k hk => by have := (HO1.out.lt k hk).2; omega)).below b2
  rw [hlo] at hsp
  obtain ⟨hi, hhi⟩ : ∃ hi, W2.heap.size = hi := ⟨_, rfl⟩
  have hhi2 := hsp.hs
  have HSP2 : Hid (SP lo hi W2 p rb own (LL0 own).flatten) := by rw [← hhi]; exact hsp
  have he : ∀ w : World, (binOp .eql 25 (.pointer (some ⟨p, 0, none⟩)) (.pointer none)).run Try.prog w = .ok (.bool false) w := fun _ => rfl
  have HHI : Hid (hi = W2.heap.size) := hhi.symm
  clear hok hsp b2 hlo hhi hzz hhi2 HO1
  go_wp2_with fail
  refine (rnew_any rb A1 n1 c1 own W2 HST2.out HN1.out HI64.out (by have := HN6.out; omega)).mono ?_
  rintro e W3 ⟨_, hok, b3⟩
  obtain ⟨va, vl, rfl, hrs⟩ := hok HOWN.out.ok
  have hrs1 := hrs rb (by have := HSP2.out.hr.2; have := HHI.out; omega)
  have HALL := Lib.hid hrs
  obtain ⟨A2, c2, A3, c3, hva, hvl⟩ := hrs1.form
  obtain ⟨m3, hm3⟩ : ∃ m3, (LL0 own).length = m3 := ⟨_, rfl⟩
  rw [HN1.out] at hva
  rw [hm3] at hvl
  subst hva hvl
  have HRS3 := Lib.hid hrs1
  have HSP3 := Lib.hid (HSP2.out.below b3)
  have HST3 := Lib.hid (HST2.out.below b3)
  have HB3 : Hid (Below w.heap.size w W3) := HB2.out.trans (b3.mono HB2.out.size)
  have HSZ3 : Hid (hi ≤ W3.heap.size) := by rw [HHI.out]; exact b3.size
  clear hok hrs hrs1 b3 hm3
  go_wp2_with fail
  obtain ⟨W4, hW4⟩ : ∃ W4, W3.alloc (.cells #[.slice A2 n1 c2, .slice A3 m3 c3] 31) = W4 := ⟨_, rfl⟩
  simp only [hW4]
  have b34 : Below W3.heap.size W3 W4 := by rw [← hW4]; exact (Below.refl _ _).alloc (Nat.le_refl _) _
  obtain ⟨b8, hb8⟩ : ∃ b8, W3.heap.size = b8 := ⟨_, rfl⟩
  have HQ4 : Hid (W4.heap[b8]? = some (.cells #[.slice A2 n1 c2, .slice A3 m3 c3] 31 (0, 0))) := by rw [← hW4, ← hb8]; exact heap_alloc_new _ _
  have HBS4 : Hid (BS lo hi p rb b8 (.slice A2 n1 c2) (.slice A3 m3 c3) own (LL0 own) w W4) :=
    ⟨HSP3.out.below b34, HSH.out, HRS3.out.below b34, (HRS3.out.fresh (by rw [← hb8]; exact Nat.le_refl _)).below b34, HQ4.out, HB3.out.trans (b34.mono HB3.out.size), by have := HSP3.out.hr; have := HLO.out; have := HSZ3.out; omega⟩
  try simp only [hb8]
  clear hW4 b34 hb8 HQ4 HSP2 HSP3 HRS3 HST2 HST3 HB1 HB2 HB3 HALL HSZ3 HHI
  refine (told_any W4).mono ?_
  rintro e W5 ⟨rfl, b5⟩
  have HBS5 := Lib.hid (HBS4.out.below b5)
  clear b5 HBS4 HSH
  go_wp2_with fail
  go_loopw [12] (fun v wr => Cl1Rel no lo hi p rb b8 (.slice A2 n1 c2) own w v wr) (fun v => fun _ => 50 - (intOf v).toNat)
  case atStart => exact ⟨⟨0, A3, m3, c3, LL0 own, Nat.zero_le _, Nat.zero_le _, rfl, HBS5.out⟩⟩
  case round =>
    clear HBS5
    obtain ⟨⟨k, Ak, mk, ck, LL, hk, hkn, rfl, hbs⟩⟩ := hrel
    have HK := Lib.hid hk
    have HKN := Lib.hid hkn
    have HBS := Lib.hid hbs
    clear hk hkn hbs
    by_cases hlt : k < no
    · have hkI : (k : Int) < (no : Int) := by omega
      by_cases hl100 : k < 50
      · have hk100 : (k : Int) < 50 := by omega
        have HX : Hid (k < no) := hlt
        have HX1 : Hid (k < 50) := hl100
        obtain ⟨hnx, b, off, x, cs, rfl, hbl, hx, hR, hcl, hc⟩ := HO.out.at_ k hlt
        clear hnx hcl
        obtain ⟨a2, q2, rfl, hu1, hu2, hcap, hus, hstx⟩ := hR
        obtain ⟨xk, xa, xw, xkeep, xs⟩ := x
        dsimp only at hu1 hu2 hcap hus hstx hc
        obtain ⟨xn, hxn⟩ : ∃ xn, xs.length = xn := ⟨_, rfl⟩
        rw [hxn] at hc hcap hstx
        have HBL : Hid (b < w.heap.size) := hbl
        have d0 : wr.cell? ⟨b, off + k * 5, none⟩ = some (.int .i64 xk) := cell_later HBS.out.bel (hc 0 _ rfl)
        have d1 : wr.cell? ⟨b, off + k * 5 + 1, none⟩ = some (.int .u32 xa) := cell_later HBS.out.bel (hc 1 _ rfl)
        have d2 : wr.cell? ⟨b, off + k * 5 + 2, none⟩ = some (.int .u32 xw) := cell_later HBS.out.bel (hc 2 _ rfl)
        have d3 : wr.cell? ⟨b, off + k * 5 + 3, none⟩ = some (.slice a2 xn q2) := cell_later HBS.out.bel (hc 3 _ rfl)
        have d4 : wr.cell? ⟨b, off + k * 5 + 4, none⟩ = some (.bool xkeep) := cell_later HBS.out.bel (hc 4 _ rfl)
        have HSX := Lib.hid (hstx rb HBS.out.ord.1)
        have HXN := Lib.hid hxn
        have HU1 := Lib.hid hu1
        have HU2 := Lib.hid hu2
        have HCAP : Hid (∀ a n c, (Value.slice a2 xn q2) = .slice a n c → n ≤ c) := fun a n c e => by injection e with e1 e2 e3; omega
        have HUS := Lib.hid hus
        have BSD := Lib.hid (HBS.out.below (below_drewN (Below.refl _ _) 1))
        have HBW : Hid (Below w.heap.size w (wr.drewN 1)) := HBS.out.bel.trans ((below_drewN (Below.refl _ _) 1).mono HBS.out.bel.size)
        have CD := Lib.hid (do_any lo hi p rb (.slice A2 n1 c2) (.slice Ak mk ck) (.slice a2 xn q2) own LL xk xa xw xkeep xs (wr.drewN 1) BSD.out.sp BSD.out.rs BSD.out.sh HU1.out HU2.out (by rw [hxn]; exact HSX.out.below HBW.out) HCAP.out HUS.out)
        have x0 := HBS.out.cells.1
        have x1 := HBS.out.cells.2.1
        have x0' : wr.drew.cell? ⟨b8, 0, none⟩ = some (.slice A2 n1 c2) := x0
        have x1' : wr.drew.cell? ⟨b8, 1, none⟩ = some (.slice Ak mk ck) := x1
        have HDS := Lib.hid (And.intro d0 (And.intro d1 (And.intro d2 (And.intro d3 d4))))
        clear hc hlt hl100 hbl hx hu1 hu2 hcap hus hstx hxn d0 d1 d2 d3 d4
        go_wp2_with fail
        refine wp_region_held_drew (S := (fun w' => w'.cell? ⟨b, off + k * 5, none⟩ = some (.int .i64 xk) ∧ w'.cell? ⟨b, off + k * 5 + 1, none⟩ = some (.int .u32 xa) ∧ w'.cell? ⟨b, off + k * 5 + 2, none⟩ = some (.int .u32 xw) ∧ w'.cell? ⟨b, off + k * 5 + 3, none⟩ = some (.slice a2 xn q2) ∧ w'.cell? ⟨b, off + k * 5 + 4, none⟩ = some (.bool xkeep))) (by kernel_rfl) ?_ (fun hHeld => ?_)
        · exact HDS.out
        refine takeD (i := 0) (d := some 50) (v := ?_) _ rfl rfl (by kernel_rfl) (by kernel_rfl) (by kernel_rfl) (fun _ _ _ h => h) (by rfl) ?_ (by assumption) ?_
        rotate_left
        · (intro w hSw; (try dsimp only at hSw); go_simp) <;> with_reducible rfl
        try simp only [Act.put, List.setIfInBounds_toArray, List.set_cons_zero, List.set_cons_succ]
        refine takeD (i := 2) (d := some 52) (v := ?_) _ rfl rfl (by kernel_rfl) (by kernel_rfl) (by kernel_rfl) (fun _ _ _ h => h) (by rfl) ?_ (by assumption) ?_
        rotate_left
        · (intro w hSw; (try dsimp only at hSw); go_simp) <;> with_reducible rfl
        try simp only [Act.put, List.setIfInBounds_toArray, List.set_cons_zero, List.set_cons_succ]
        refine takeD (i := 3) (d := some 53) (v := ?_) _ rfl rfl (by kernel_rfl) (by kernel_rfl) (by kernel_rfl) (fun _ _ _ h => h) (by rfl) ?_ (by assumption) ?_
        rotate_left
        · (intro w hSw; (try dsimp only at hSw); go_simp) <;> with_reducible rfl
        try simp only [Act.put, List.setIfInBounds_toArray, List.set_cons_zero, List.set_cons_succ]
        refine takeD (i := 4) (d := some 54) (v := ?_) _ rfl rfl (by kernel_rfl) (by kernel_rfl) (by kernel_rfl) (fun _ _ _ h => h) (by rfl) ?_ (by assumption) ?_
        rotate_left
        · (intro w hSw; (try dsimp only at hSw); go_simp) <;> with_reducible rfl
        try simp only [Act.put, List.setIfInBounds_toArray, List.set_cons_zero, List.set_cons_succ]
        refine takeD (i := 5) (d := some 55) (v := ?_) _ rfl rfl (by kernel_rfl) (by kernel_rfl) (by kernel_rfl) (fun _ _ _ h => h) (by rfl) ?_ (by assumption) ?_
        rotate_left
        · (intro w hSw; (try dsimp only at hSw); go_simp) <;> with_reducible rfl
        try simp only [Act.put, List.setIfInBounds_toArray, List.set_cons_zero, List.set_cons_succ]
        refine wpAnyH_ready (rs := [1]) (by kernel_rfl) (by simp) ?_
        refine AllReadyH.cons rfl (fun K hK => ?_) AllReadyH.nil
        go_simp
        refine hK.out _ _ hHeld (fun hHeld => ?_)
        clear hK K x0 x1 x0' x1'
        try simp only [Act.put, List.setIfInBounds_toArray, List.set_cons_zero, List.set_cons_succ]
        refine wpAnyH_ready (rs := [6]) (by kernel_rfl) (by simp) ?_
        refine AllReadyH.cons rfl (fun K hK => ?_) AllReadyH.nil
        go_simp
        go_at_call 15
        refine CD.out.mono ?_
        rintro e W3 ⟨vl', LL', rfl, hsp3, htn3, hsh3, hp3⟩
        obtain ⟨A5, c5, rfl⟩ : ∃ A5 c5, vl' = .slice A5 LL'.length c5 := by
          obtain ⟨_, _, A5, c5, _, e⟩ := (htn3 rb BSD.out.lt.1 BSD.out.rs).form
          exact ⟨A5, c5, e⟩
        obtain ⟨m5, hm5⟩ : ∃ m5, LL'.length = m5 := ⟨_, rfl⟩
        rw [hm5] at htn3 ⊢
        have HTN3 := Lib.hid htn3
        have HSP3 := Lib.hid hsp3
        have HSH3 := Lib.hid hsh3
        have HP3 := Lib.hid hp3
        have hrx := HBS.out.ord.1
        have hbl := HBL.out
        have hox := HBS.out.ord
        have hsz := HBW.out.size
        have HBK : Hid (b < W3.heap.size ∧ b ≠ b8) := by have := hp3.size; unfold Hid; omega
        try go_wp2_with fail
        refine hK.out _ _ ⟨cell_past hp3 (by omega) (by omega) hHeld.1, cell_past hp3 (by omega) (by omega) hHeld.2.1, cell_past hp3 (by omega) (by omega) hHeld.2.2.1, cell_past hp3 (by omega) (by omega) hHeld.2.2.2.1, cell_past hp3 (by omega) (by omega) hHeld.2.2.2.2⟩ (fun hHeld => ?_)
        clear hK K hrx hbl hox hsz hsp3 htn3 hsh3 hm5 CD
        try simp only [Act.put, List.setIfInBounds_toArray, List.set_cons_zero, List.set_cons_succ]
        refine takeD (i := 7) (d := some 49) (v := ?_) _ rfl rfl (by kernel_rfl) (by kernel_rfl) (by kernel_rfl) (fun _ _ _ h => h) (by rfl) ?_ (by assumption) ?_
        rotate_left
        · (intro w hSw; (try dsimp only at hSw); go_simp) <;> with_reducible rfl
        try simp only [Act.put, List.setIfInBounds_toArray, List.set_cons_zero, List.set_cons_succ]
        refine takeD (i := 8) (d := some 57) (v := ?_) _ rfl rfl (by kernel_rfl) (by kernel_rfl) (by kernel_rfl) (fun _ _ _ h => h) (by rfl) ?_ (by assumption) ?_
        rotate_left
        · (intro w hSw; (try dsimp only at hSw); go_simp) <;> with_reducible rfl
        try simp only [Act.put, List.setIfInBounds_toArray, List.set_cons_zero, List.set_cons_succ]
        refine takeD (i := 9) (d := some 58) (v := ?_) _ rfl rfl (by kernel_rfl) (by kernel_rfl) (by kernel_rfl) (fun _ _ _ h => h) (by rfl) ?_ (by assumption) ?_
        rotate_left
        · (intro w hSw; (try dsimp only at hSw); go_simp) <;> with_reducible rfl
        try simp only [Act.put, List.setIfInBounds_toArray, List.set_cons_zero, List.set_cons_succ]
        have hq3 := hp_keep hp3 (by have := HBS.out.ord; omega) BSD.out.q
        have z0 := (row_cell hq3 0).1
        have z1 := (row_cell hq3 1).1
        have zf0 := (row_cell hq3 0).2
        have zf1 := (row_cell hq3 1).2
        simp at z0 z1
        have HH := Lib.hid hHeld
        have PX8 := Lib.hid (((Past.refl b8 W3).setCell 0 (.slice A2 n1 c2)).setCell 1 (.slice A5 m5 c5))
        clear hq3 hp3
        refine wpAnyH_ready (rs := [10]) (by kernel_rfl) (by simp) ?_
        refine AllReadyH.cons rfl (fun K hK => ?_) AllReadyH.nil
        go_simp
        refine hK.out _ _ ⟨cell_past PX8.out HBK.out.1 HBK.out.2 HH.out.1, cell_past PX8.out HBK.out.1 HBK.out.2 HH.out.2.1, cell_past PX8.out HBK.out.1 HBK.out.2 HH.out.2.2.1, cell_past PX8.out HBK.out.1 HBK.out.2 HH.out.2.2.2.1, cell_past PX8.out HBK.out.1 HBK.out.2 HH.out.2.2.2.2⟩ (fun hHeld => ?_)
        clear hK K z0 z1 zf0 zf1
        try simp only [Act.put, List.setIfInBounds_toArray, List.set_cons_zero, List.set_cons_succ]
        refine wpAnyH_done (by kernel_rfl) ?_ _
        have HBS8 := Lib.hid (BSD.out.does HSP3.out HTN3.out HSH3.out HP3.out)
        obtain ⟨W8, hW8⟩ : ∃ W8, (W3.setCell ⟨b8, 0, none⟩ (.slice A2 n1 c2)).setCell ⟨b8, 1, none⟩ (.slice A5 m5 c5) = W8 := ⟨_, rfl⟩
        simp only [hW8] at HBS8 ⊢
        clear hHeld hW8
        go_wp2_with fail
        go_roundw
        case rel =>
          have Q : Cl1Rel no lo hi p rb b8 (.slice A2 n1 c2) own w (.int .i64 ((k : Int) + 1)) W8 := ⟨⟨k + 1, A5, m5, c5, LL', HX1.out, HX.out, by go_num, HBS8.out⟩⟩
          first | exact Q | ((repeat apply Exists.intro); exact ⟨Q, rfl⟩)
        case measure => have := HX1.out; simp [intOf]; omega
      · have hk1 : k = 50 := by have := HK.out; omega
        subst hk1
        clear hlt hl100
        have HFL1 : Hid (LL.flatten.length ≤ 5000) := by have := HBS.out.sh.flat; have := HBS.out.sh.sum; unfold Hid; omega
        have CC := Lib.hid (clone_any lo hi p rb own LL.flatten wr HBS.out.sp HBS.out.sh.few HFL1.out)
        go_wp2_with fail
        refine CC.out.mono ?_
        rintro e W6 ⟨⟨p2, rb2, rfl, hsp2⟩, b6⟩
        obtain ⟨wo, hwo⟩ : ∃ wo, wo = wr := ⟨_, rfl⟩
        subst hwo
        obtain ⟨lo2, hl2⟩ : ∃ lo2, wo.heap.size = lo2 := ⟨_, rfl⟩
        obtain ⟨hi2, hh2⟩ : ∃ hi2, W6.heap.size = hi2 := ⟨_, rfl⟩
        rw [hl2, hh2] at hsp2
        have HSP2 := Lib.hid hsp2
        have HA6 := Lib.hid (HBS.out.below b6)
        have HL2 : Hid (wo.heap.size = lo2 ∧ b8 < lo2 ∧ hi ≤ lo2 ∧ p < lo2) := by have := HBS.out.lt; have := HBS.out.sp.hs; have := HBS.out.sp.hp; unfold Hid; omega
        have hne : p2 ≠ p := by have := HL2.out; have := HSP2.out.hp; omega
        have he2 : ∀ w : World, (binOp .eql 25 (.pointer (some ⟨p2, 0, none⟩)) (.pointer none)).run Try.prog w = .ok (.bool false) w := fun _ => rfl
        have hpp := sp_far HSP2.out HA6.out.sp hne
        have HB6 := Lib.hid b6
        have CS1 := Lib.hid (same_any lo2 hi2 p2 rb2 lo hi p rb own LL.flatten LL.flatten W6 HSP2.out HA6.out.sp HBS.out.sh.few HFL1.out)
        have CS2 := Lib.hid fun (W : World) (hb : Below W6.heap.size W6 W) => same_any lo hi p rb lo2 hi2 p2 rb2 own LL.flatten LL.flatten W (HA6.out.sp.below hb) (HSP2.out.below hb) HBS.out.sh.few HFL1.out
        have hff : decide (LL.flatten = LL.flatten) = true := by simp
        rw [hff] at CS1 CS2
        have CS3 := Lib.hid (same_some_nil p)
        clear b6 hsp2 hl2 hh2 CC hne hff
        go_wp2_with fail
        refine CS1.out.mono ?_
        rintro e W7 ⟨rfl, b7⟩
        clear CS1
        go_wp2_with fail
        refine (CS2.out W7 b7).mono ?_
        rintro e W8 ⟨rfl, b8'⟩
        have B8 : Hid (Below W6.heap.size W6 W8) := b7.trans (b8'.mono b7.size)
        clear CS2 b7 b8'
        go_wp2_with fail
        refine (CS3.out W8).mono ?_
        rintro e W9 ⟨rfl, b9⟩
        have B9 : Hid (Below W6.heap.size W6 W9) := B8.out.trans (b9.mono B8.out.size)
        clear CS3 b9 B8 hpp he2
        have HA9 := Lib.hid (HA6.out.below B9.out)
        have x0 := HA9.out.cells.1
        have x1 := HA9.out.cells.2.1
        go_wp2_with fail
        obtain ⟨W10, hW10⟩ : ∃ W10, W9.alloc (.cells #[.slice A2 n1 c2, .slice Ak mk ck] 31) = W10 := ⟨_, rfl⟩
        simp only [hW10]
        have b910 : Below W9.heap.size W9 W10 := by rw [← hW10]; exact (Below.refl _ _).alloc (Nat.le_refl _) _
        obtain ⟨b14, hb14⟩ : ∃ b14, W9.heap.size = b14 := ⟨_, rfl⟩
        have hq10 : W10.heap[b14]? = some (.cells #[.slice A2 n1 c2, .slice Ak mk ck] 31 (0, 0)) := by rw [← hW10, ← hb14]; exact heap_alloc_new _ _
        have BO9 : Hid (Below wo.heap.size wo W9) := HB6.out.trans (B9.out.mono HB6.out.size)
        have BO10 : Hid (Below wo.heap.size wo W10) := BO9.out.trans (b910.mono BO9.out.size)
        have HA10 := Lib.hid (HA9.out.below b910)
        have HR2 : Hid (RS rb2 W10 (.slice A2 n1 c2) (.slice Ak mk ck) own LL) := (HBS.out.rs.fresh (by have := HL2.out.1; have := HSP2.out.hr.1; omega)).below BO10.out
        have HR14 : Hid (RS b14 W10 (.slice A2 n1 c2) (.slice Ak mk ck) own LL) := (HA9.out.rs.fresh (by rw [← hb14]; exact Nat.le_refl _)).below b910
        have HB10 : Hid (BS lo2 hi2 p2 rb2 b14 (.slice A2 n1 c2) (.slice Ak mk ck) own LL wo W10) :=
          ⟨(HSP2.out.below B9.out).below b910, HBS.out.sh, HR2.out, HR14.out, hq10, BO10.out, by have := HL2.out.1; have := HSP2.out.hr; have := (HSP2.out.below B9.out).hs; omega⟩
        have HOR : Hid (w.heap.size ≤ rb2 ∧ hi ≤ rb2 ∧ rb2 ≠ b8 ∧ hi ≤ b14 ∧ b14 ≠ b8) := by
          have := HL2.out; have := HB10.out.ord; have := HBS.out.ord; have := HSP2.out.hr
          unfold Hid; omega
        try simp only [hb14]
        clear hW10 b910 hb14 hq10 x0 x1 HA6 HA9 HB6 B9 BO9 BO10 HSP2 HBS HK HKN HL2
        go_loopw [15] (fun v wr => Cl2Rel nt lo hi p rb b8 lo2 hi2 p2 rb2 b14 (.slice A2 n1 c2) (.slice Ak mk ck) own LL w wo v wr) (fun v => fun _ => 50 - (intOf v).toNat)
        case atStart => exact ⟨⟨0, Ak, mk, ck, LL, Nat.zero_le _, Nat.zero_le _, rfl, HA10.out, HB10.out, HR2.out, HR14.out⟩⟩
        case round =>
          clear HA10 HB10 HR2 HR14
          obtain ⟨⟨k, Ay, my, cy, LY, hk, hkn, rfl, hba, hbb, hr2, hr14⟩⟩ := hrel
          have HK := Lib.hid hk
          have HKN := Lib.hid hkn
          have HBA := Lib.hid hba
          have HBB := Lib.hid hbb
          have HR2 := Lib.hid hr2
          have HR14 := Lib.hid hr14
          clear hk hkn hba hbb hr2 hr14
          by_cases hlt : k < nt
          · have hkI : (k : Int) < (nt : Int) := by omega
            by_cases hl100 : k < 50
            · have hk100 : (k : Int) < 50 := by omega
              have HX : Hid (k < nt) := hlt
              have HX1 : Hid (k < 50) := hl100
              obtain ⟨hnx, b, off, x, cs, rfl, hbl, hx, hR, hcl, hc⟩ := HT.out.at_ k hlt
              clear hnx hcl
              obtain ⟨a2, q2, rfl, hu1, hu2, hcap, hus, hstx⟩ := hR
              obtain ⟨xk, xa, xw, xkeep, xs⟩ := x
              dsimp only at hu1 hu2 hcap hus hstx hc
              obtain ⟨xn, hxn⟩ : ∃ xn, xs.length = xn := ⟨_, rfl⟩
              rw [hxn] at hc hcap hstx
              have HBL : Hid (b < w.heap.size) := hbl
              have d0 : wr.cell? ⟨b, off + k * 5, none⟩ = some (.int .i64 xk) := cell_later HBA.out.bel (hc 0 _ rfl)
              have d1 : wr.cell? ⟨b, off + k * 5 + 1, none⟩ = some (.int .u32 xa) := cell_later HBA.out.bel (hc 1 _ rfl)
              have d2 : wr.cell? ⟨b, off + k * 5 + 2, none⟩ = some (.int .u32 xw) := cell_later HBA.out.bel (hc 2 _ rfl)
              have d3 : wr.cell? ⟨b, off + k * 5 + 3, none⟩ = some (.slice a2 xn q2) := cell_later HBA.out.bel (hc 3 _ rfl)
              have d4 : wr.cell? ⟨b, off + k * 5 + 4, none⟩ = some (.bool xkeep) := cell_later HBA.out.bel (hc 4 _ rfl)
              have HSX := Lib.hid (hstx rb2 HOR.out.1)
              have HXN := Lib.hid hxn
              have HU1 := Lib.hid hu1
              have HU2 := Lib.hid hu2
              have HCAP : Hid (∀ a n c, (Value.slice a2 xn q2) = .slice a n c → n ≤ c) := fun a n c e => by injection e with e1 e2 e3; omega
              have HUS := Lib.hid hus
              have BSD := Lib.hid (HBB.out.below (below_drewN (Below.refl _ _) 1))
              have HBW : Hid (Below w.heap.size w (wr.drewN 1)) := HBA.out.bel.trans ((below_drewN (Below.refl _ _) 1).mono HBA.out.bel.size)
              have CD := Lib.hid (do_any lo2 hi2 p2 rb2 (.slice A2 n1 c2) (.slice Ay my cy) (.slice a2 xn q2) own LY xk xa xw xkeep xs (wr.drewN 1) BSD.out.sp BSD.out.rs BSD.out.sh HU1.out HU2.out (by rw [hxn]; exact HSX.out.below HBW.out) HCAP.out HUS.out)
              have x0 := HBB.out.cells.1
              have x1 := HBB.out.cells.2.1
              have x0' : wr.drew.cell? ⟨b14, 0, none⟩ = some (.slice A2 n1 c2) := x0
              have x1' : wr.drew.cell? ⟨b14, 1, none⟩ = some (.slice Ay my cy) := x1
              have HDS := Lib.hid (And.intro d0 (And.intro d1 (And.intro d2 (And.intro d3 d4))))
              clear hc hlt hl100 hbl hx hu1 hu2 hcap hus hstx hxn d0 d1 d2 d3 d4
              go_wp2_with fail
              refine wp_region_held_drew (S := (fun w' => w'.cell? ⟨b, off + k * 5, none⟩ = some (.int .i64 xk) ∧ w'.cell? ⟨b, off + k * 5 + 1, none⟩ = some (.int .u32 xa) ∧ w'.cell? ⟨b, off + k * 5 + 2, none⟩ = some (.int .u32 xw) ∧ w'.cell? ⟨b, off + k * 5 + 3, none⟩ = some (.slice a2 xn q2) ∧ w'.cell? ⟨b, off + k * 5 + 4, none⟩ = some (.bool xkeep))) (by kernel_rfl) ?_ (fun hHeld => ?_)
              · exact HDS.out
              refine takeD (i := 0) (d := some 96) (v := ?_) _ rfl rfl (by kernel_rfl) (by kernel_rfl) (by kernel_rfl) (fun _ _ _ h => h) (by rfl) ?_ (by assumption) ?_
              rotate_left
              · (intro w hSw; (try dsimp only at hSw); go_simp) <;> with_reducible rfl
              try simp only [Act.put, List.setIfInBounds_toArray, List.set_cons_zero, List.set_cons_succ]
              refine takeD (i := 2) (d := some 98) (v := ?_) _ rfl rfl (by kernel_rfl) (by kernel_rfl) (by kernel_rfl) (fun _ _ _ h => h) (by rfl) ?_ (by assumption) ?_
              rotate_left
              · (intro w hSw; (try dsimp only at hSw); go_simp) <;> with_reducible rfl
              try simp only [Act.put, List.setIfInBounds_toArray, List.set_cons_zero, List.set_cons_succ]
              refine takeD (i := 3) (d := some 99) (v := ?_) _ rfl rfl (by kernel_rfl) (by kernel_rfl) (by kernel_rfl) (fun _ _ _ h => h) (by rfl) ?_ (by assumption) ?_
              rotate_left
              · (intro w hSw; (try dsimp only at hSw); go_simp) <;> with_reducible rfl
              try simp only [Act.put, List.setIfInBounds_toArray, List.set_cons_zero, List.set_cons_succ]
              refine takeD (i := 4) (d := some 100) (v := ?_) _ rfl rfl (by kernel_rfl) (by kernel_rfl) (by kernel_rfl) (fun _ _ _ h => h) (by rfl) ?_ (by assumption) ?_
              rotate_left
              · (intro w hSw; (try dsimp only at hSw); go_simp) <;> with_reducible rfl
              try simp only [Act.put, List.setIfInBounds_toArray, List.set_cons_zero, List.set_cons_succ]
              refine takeD (i := 5) (d := some 101) (v := ?_) _ rfl rfl (by kernel_rfl) (by kernel_rfl) (by kernel_rfl) (fun _ _ _ h => h) (by rfl) ?_ (by assumption) ?_
              rotate_left
              · (intro w hSw; (try dsimp only at hSw); go_simp) <;> with_reducible rfl
              try simp only [Act.put, List.setIfInBounds_toArray, List.set_cons_zero, List.set_cons_succ]
              refine wpAnyH_ready (rs := [1]) (by kernel_rfl) (by simp) ?_
              refine AllReadyH.cons rfl (fun K hK => ?_) AllReadyH.nil
              go_simp
              refine hK.out _ _ hHeld (fun hHeld => ?_)
              clear hK K x0 x1 x0' x1'
              try simp only [Act.put, List.setIfInBounds_toArray, List.set_cons_zero, List.set_cons_succ]
              refine wpAnyH_ready (rs := [6]) (by kernel_rfl) (by simp) ?_
              refine AllReadyH.cons rfl (fun K hK => ?_) AllReadyH.nil
              go_simp
              go_at_call 15
              refine CD.out.mono ?_
              rintro e W3 ⟨vl', LL', rfl, hsp3, htn3, hsh3, hp3⟩
              obtain ⟨A5, c5, rfl⟩ : ∃ A5 c5, vl' = .slice A5 LL'.length c5 := by
                obtain ⟨_, _, A5, c5, _, e⟩ := (htn3 rb2 BSD.out.lt.1 BSD.out.rs).form
                exact ⟨A5, c5, e⟩
              obtain ⟨m5, hm5⟩ : ∃ m5, LL'.length = m5 := ⟨_, rfl⟩
              rw [hm5] at htn3 ⊢
              have HTN3 := Lib.hid htn3
              have HSP3 := Lib.hid hsp3
              have HSH3 := Lib.hid hsh3
              have HP3 := Lib.hid hp3
              have hrx := HOR.out.1
              have hbl := HBL.out
              have hox := HBB.out.ord
              have hsz := HBW.out.size
              have HBK : Hid (b < W3.heap.size ∧ b ≠ b14) := by have := hp3.size; unfold Hid; omega
              try go_wp2_with fail
              refine hK.out _ _ ⟨cell_past hp3 (by omega) (by omega) hHeld.1, cell_past hp3 (by omega) (by omega) hHeld.2.1, cell_past hp3 (by omega) (by omega) hHeld.2.2.1, cell_past hp3 (by omega) (by omega) hHeld.2.2.2.1, cell_past hp3 (by omega) (by omega) hHeld.2.2.2.2⟩ (fun hHeld => ?_)
              clear hK K hrx hbl hox hsz hsp3 htn3 hsh3 hm5 CD
              try simp only [Act.put, List.setIfInBounds_toArray, List.set_cons_zero, List.set_cons_succ]
              refine takeD (i := 7) (d := some 95) (v := ?_) _ rfl rfl (by kernel_rfl) (by kernel_rfl) (by kernel_rfl) (fun _ _ _ h => h) (by rfl) ?_ (by assumption) ?_
              rotate_left
              · (intro w hSw; (try dsimp only at hSw); go_simp) <;> with_reducible rfl
              try simp only [Act.put, List.setIfInBounds_toArray, List.set_cons_zero, List.set_cons_succ]
              refine takeD (i := 8) (d := some 103) (v := ?_) _ rfl rfl (by kernel_rfl) (by kernel_rfl) (by kernel_rfl) (fun _ _ _ h => h) (by rfl) ?_ (by assumption) ?_
              rotate_left
              · (intro w hSw; (try dsimp only at hSw); go_simp) <;> with_reducible rfl
              try simp only [Act.put, List.setIfInBounds_toArray, List.set_cons_zero, List.set_cons_succ]
              refine takeD (i := 9) (d := some 104) (v := ?_) _ rfl rfl (by kernel_rfl) (by kernel_rfl) (by kernel_rfl) (fun _ _ _ h => h) (by rfl) ?_ (by assumption) ?_
              rotate_left
              · (intro w hSw; (try dsimp only at hSw); go_simp) <;> with_reducible rfl
              try simp only [Act.put, List.setIfInBounds_toArray, List.set_cons_zero, List.set_cons_succ]
              have hq3 := hp_keep hp3 (by have := HBB.out.ord; omega) BSD.out.q
              have z0 := (row_cell hq3 0).1
              have z1 := (row_cell hq3 1).1
              have zf0 := (row_cell hq3 0).2
              have zf1 := (row_cell hq3 1).2
              simp at z0 z1
              have HH := Lib.hid hHeld
              have PX8 := Lib.hid (((Past.refl b14 W3).setCell 0 (.slice A2 n1 c2)).setCell 1 (.slice A5 m5 c5))
              clear hq3 hp3
              refine wpAnyH_ready (rs := [10]) (by kernel_rfl) (by simp) ?_
              refine AllReadyH.cons rfl (fun K hK => ?_) AllReadyH.nil
              go_simp
              refine hK.out _ _ ⟨cell_past PX8.out HBK.out.1 HBK.out.2 HH.out.1, cell_past PX8.out HBK.out.1 HBK.out.2 HH.out.2.1, cell_past PX8.out HBK.out.1 HBK.out.2 HH.out.2.2.1, cell_past PX8.out HBK.out.1 HBK.out.2 HH.out.2.2.2.1, cell_past PX8.out HBK.out.1 HBK.out.2 HH.out.2.2.2.2⟩ (fun hHeld => ?_)
              clear hK K z0 z1 zf0 zf1
              try simp only [Act.put, List.setIfInBounds_toArray, List.set_cons_zero, List.set_cons_succ]
              refine wpAnyH_done (by kernel_rfl) ?_ _
              have HB8 := Lib.hid (BSD.out.does HSP3.out HTN3.out HSH3.out HP3.out)
              have bdr : Below wr.heap.size wr (wr.drewN 1) := below_drewN (Below.refl _ _) 1
              have HR23 := Lib.hid ((HR2.out.below bdr).past HP3.out)
              have HR143 := Lib.hid ((HR14.out.below bdr).both (HR2.out.below bdr) HP3.out)
              have HA3 := Lib.hid ((HBA.out.below bdr).other (HR2.out.below bdr) ⟨HOR.out.2.1, HOR.out.2.2.1⟩ HP3.out)
              have HA8 := Lib.hid (HA3.out.other HR143.out ⟨HOR.out.2.2.2.1, HOR.out.2.2.2.2⟩ PX8.out)
              have HR28 := Lib.hid (HR23.out.both HR143.out PX8.out)
              have HR148 := Lib.hid (HR143.out.past PX8.out)
              obtain ⟨W8, hW8⟩ : ∃ W8, (W3.setCell ⟨b14, 0, none⟩ (.slice A2 n1 c2)).setCell ⟨b14, 1, none⟩ (.slice A5 m5 c5) = W8 := ⟨_, rfl⟩
              simp only [hW8] at HB8 HA8 HR28 HR148 ⊢
              clear hHeld hW8 bdr HR23 HR143 HA3 PX8 HH HP3 HSP3 HTN3 HSH3 BSD
              have HFL2 : Hid (LL'.flatten.length ≤ 5000) := by have := HB8.out.sh.flat; have := HB8.out.sh.sum; unfold Hid; omega
              have CW1 := Lib.hid fun (W : World) (hb : Below W8.heap.size W8 W) => words_any lo hi p rb own LL.flatten W (HA8.out.sp.below hb) HFL1.out
              have CR1 := Lib.hid fun (W : World) (hb : Below W8.heap.size W8 W) => rwords_any rb (.slice A2 n1 c2) (.slice Ak mk ck) own LL W (HA8.out.rs.below hb) (by rw [HA8.out.sh.len]; exact HA8.out.sh.few) HFL1.out
              have CR2 := Lib.hid fun (W : World) (hb : Below W8.heap.size W8 W) => rwords_any rb2 (.slice A2 n1 c2) (.slice A5 m5 c5) own LL' W (HB8.out.rs.below hb) (by rw [HB8.out.sh.len]; exact HB8.out.sh.few) HFL2.out
              have CS12 := Lib.hid fun (W : World) (hb : Below W8.heap.size W8 W) => same_any lo hi p rb lo2 hi2 p2 rb2 own LL.flatten LL'.flatten W (HA8.out.sp.below hb) (HB8.out.sp.below hb) HA8.out.sh.few HFL1.out
              have CS21 := Lib.hid fun (W : World) (hb : Below W8.heap.size W8 W) => same_any lo2 hi2 p2 rb2 lo hi p rb own LL'.flatten LL.flatten W (HB8.out.sp.below hb) (HA8.out.sp.below hb) HA8.out.sh.few HFL2.out
              obtain ⟨F1, hF1⟩ : ∃ F1, LL.flatten = F1 := ⟨_, rfl⟩
              obtain ⟨F2, hF2⟩ : ∃ F2, LL'.flatten = F2 := ⟨_, rfl⟩
              have HFL1' : Hid (F1.length ≤ 5000) := by rw [← hF1]; exact HFL1.out
              rw [hF1] at CW1 CR1 CS12 CS21
              rw [hF2] at HFL2 CR2 CS12 CS21
              have HT11 : Hid (decide (F1 = F1) = true) := by unfold Hid; simp
              clear hF1 hF2
              by_cases hFF : F1 = F2
              · have HT12 : Hid (decide (F1 = F2) = true) := by unfold Hid; simp [hFF]
                have HT21 : Hid (decide (F2 = F1) = true) := by unfold Hid; simp [hFF]
                rw [HT12.out] at CS12
                rw [HT21.out] at CS21
                clear hFF
                go_wp2_with fail
                have HC8 : Hid (W8.cell? ⟨b8, 0, none⟩ = some (.slice A2 n1 c2) ∧ W8.cell? ⟨b8, 1, none⟩ = some (.slice Ak mk ck) ∧ W8.cell? ⟨b14, 0, none⟩ = some (.slice A2 n1 c2) ∧ W8.cell? ⟨b14, 1, none⟩ = some (.slice A5 m5 c5)) := ⟨HA8.out.cells.1, HA8.out.cells.2.1, HB8.out.cells.1, HB8.out.cells.2.1⟩
                refine wp_region_held_drew (S := (fun w' => w'.cell? ⟨b8, 0, none⟩ = some (.slice A2 n1 c2) ∧ w'.cell? ⟨b8, 1, none⟩ = some (.slice Ak mk ck) ∧ w'.cell? ⟨b14, 0, none⟩ = some (.slice A2 n1 c2) ∧ w'.cell? ⟨b14, 1, none⟩ = some (.slice A5 m5 c5))) (by kernel_rfl) ?_ (fun hHeld => ?_)
                · exact HC8.out
                refine takeD (i := 0) (d := some 105) (v := ?_) _ rfl rfl (by kernel_rfl) (by kernel_rfl) (by kernel_rfl) (fun _ _ _ h => h) (by rfl) ?_ (by assumption) ?_
                rotate_left
                · (intro w hSw; (try dsimp only at hSw); go_simp) <;> with_reducible rfl
                try simp only [Act.put, List.setIfInBounds_toArray, List.set_cons_zero, List.set_cons_succ]
                refine takeD (i := 2) (d := some 107) (v := ?_) _ rfl rfl (by kernel_rfl) (by kernel_rfl) (by kernel_rfl) (fun _ _ _ h => h) (by rfl) ?_ (by assumption) ?_
                rotate_left
                · (intro w hSw; (try dsimp only at hSw); go_simp) <;> with_reducible rfl
                try simp only [Act.put, List.setIfInBounds_toArray, List.set_cons_zero, List.set_cons_succ]
                refine wpAnyH_ready (rs := [1]) (by kernel_rfl) (by simp) ?_
                refine AllReadyH.cons rfl (fun K hK => ?_) AllReadyH.nil
                go_simp
                go_at_call 18
                refine (CR1.out _ (below_drewN (Below.refl _ _) 1)).mono ?_
                rintro e V1 ⟨⟨rr, rfl, hw1⟩, bv1'⟩
                obtain ⟨Ar, cr, rfl⟩ := slice_form hw1
                have bv1 : Below W8.heap.size W8 V1 := (below_drewN (Below.refl _ _) 1).trans bv1'
                try go_wp2_with fail
                refine hK.out _ _ ⟨cell_later bv1 HC8.out.1, cell_later bv1 HC8.out.2.1, cell_later bv1 HC8.out.2.2.1, cell_later bv1 HC8.out.2.2.2⟩ (fun hHeld => ?_)
                clear hK K
                try simp only [Act.put, List.setIfInBounds_toArray, List.set_cons_zero, List.set_cons_succ]
                refine wpAnyH_ready (rs := [3]) (by kernel_rfl) (by simp) ?_
                refine AllReadyH.cons rfl (fun K hK => ?_) AllReadyH.nil
                go_simp
                go_at_call 18
                refine (CR2.out _ bv1).mono ?_
                rintro e V2 ⟨⟨rr, rfl, hw2⟩, bv2'⟩
                obtain ⟨Ar2, cr2, rfl⟩ := slice_form hw2
                have bv2 : Below W8.heap.size W8 V2 := bv1.trans (bv2'.mono bv1.size)
                have hw1' := own_below hw1 bv2'
                have CE := Lib.hid (rsame_any V2.heap.size V2.heap.size _ _ F1 F2 V2 (St.of_own' hw1' (fun q hq => by have := (hw1'.lt q hq).2; omega)) (St.of_own' hw2 (fun q hq => by have := (hw2.lt q hq).2; omega)) HFL1'.out)
                rw [HT12.out] at CE
                try go_wp2_with fail
                refine hK.out _ _ ⟨cell_later bv2 HC8.out.1, cell_later bv2 HC8.out.2.1, cell_later bv2 HC8.out.2.2.1, cell_later bv2 HC8.out.2.2.2⟩ (fun hHeld => ?_)
                clear hK K
                try simp only [Act.put, List.setIfInBounds_toArray, List.set_cons_zero, List.set_cons_succ]
                refine wpAnyH_ready (rs := [4]) (by kernel_rfl) (by simp) ?_
                refine AllReadyH.cons rfl (fun K hK => ?_) AllReadyH.nil
                go_simp
                go_at_call 16
                refine (CE.out).mono ?_
                rintro e V3 ⟨rfl, bv3'⟩
                have bv3 : Below W8.heap.size W8 V3 := bv2.trans (bv3'.mono bv2.size)
                try go_wp2_with fail
                refine hK.out _ _ ⟨cell_later bv3 HC8.out.1, cell_later bv3 HC8.out.2.1, cell_later bv3 HC8.out.2.2.1, cell_later bv3 HC8.out.2.2.2⟩ (fun hHeld => ?_)
                clear hK K
                try simp only [Act.put, List.setIfInBounds_toArray, List.set_cons_zero, List.set_cons_succ]
                refine takeD (i := 5) (d := some 16) (v := ?_) _ rfl rfl (by kernel_rfl) (by kernel_rfl) (by kernel_rfl) (fun _ _ _ h => h) (by rfl) ?_ (by assumption) ?_
                rotate_left
                · (intro w hSw; (try dsimp only at hSw); go_simp) <;> with_reducible rfl
                try simp only [Act.put, List.setIfInBounds_toArray, List.set_cons_zero, List.set_cons_succ]
                refine wpAnyH_done (by kernel_rfl) ?_ _
                have HBV3 := Lib.hid bv3
                clear hHeld bv1 bv1' bv2 bv2' bv3 bv3' hw1 hw1' hw2 CE
                go_wp2_with fail
                refine wp_region_held_drew (S := (fun w' => w'.cell? ⟨b8, 0, none⟩ = some (.slice A2 n1 c2) ∧ w'.cell? ⟨b8, 1, none⟩ = some (.slice Ak mk ck) ∧ w'.cell? ⟨b14, 0, none⟩ = some (.slice A2 n1 c2) ∧ w'.cell? ⟨b14, 1, none⟩ = some (.slice A5 m5 c5))) (by kernel_rfl) ?_ (fun hHeld => ?_)
                · exact ⟨cell_later (HBV3.out.trans ((below_drewN (Below.refl _ _) 1).mono HBV3.out.size)) HC8.out.1, cell_later (HBV3.out.trans ((below_drewN (Below.refl _ _) 1).mono HBV3.out.size)) HC8.out.2.1, cell_later (HBV3.out.trans ((below_drewN (Below.refl _ _) 1).mono HBV3.out.size)) HC8.out.2.2.1, cell_later (HBV3.out.trans ((below_drewN (Below.refl _ _) 1).mono HBV3.out.size)) HC8.out.2.2.2⟩
                refine takeD (i := 0) (d := some 110) (v := ?_) _ rfl rfl (by kernel_rfl) (by kernel_rfl) (by kernel_rfl) (fun _ _ _ h => h) (by rfl) ?_ (by assumption) ?_
                rotate_left
                · (intro w hSw; (try dsimp only at hSw); go_simp) <;> with_reducible rfl
                try simp only [Act.put, List.setIfInBounds_toArray, List.set_cons_zero, List.set_cons_succ]
                refine takeD (i := 2) (d := some 112) (v := ?_) _ rfl rfl (by kernel_rfl) (by kernel_rfl) (by kernel_rfl) (fun _ _ _ h => h) (by rfl) ?_ (by assumption) ?_
                rotate_left
                · (intro w hSw; (try dsimp only at hSw); go_simp) <;> with_reducible rfl
                try simp only [Act.put, List.setIfInBounds_toArray, List.set_cons_zero, List.set_cons_succ]
                refine wpAnyH_ready (rs := [1]) (by kernel_rfl) (by simp) ?_
                refine AllReadyH.cons rfl (fun K hK => ?_) AllReadyH.nil
                go_simp
                go_at_call 17
                refine (CW1.out _ (HBV3.out.trans ((below_drewN (Below.refl _ _) 1).mono HBV3.out.size))).mono ?_
                rintro e V4 ⟨⟨kk, cc, rfl, hw1⟩, bv4'⟩
                have bv4 : Below W8.heap.size W8 V4 := (HBV3.out.trans ((below_drewN (Below.refl _ _) 1).mono HBV3.out.size)).trans (bv4'.mono (Nat.le_trans HBV3.out.size (below_drewN (Below.refl V3.heap.size V3) 1).size))
                try go_wp2_with fail
                refine hK.out _ _ ⟨cell_later bv4 HC8.out.1, cell_later bv4 HC8.out.2.1, cell_later bv4 HC8.out.2.2.1, cell_later bv4 HC8.out.2.2.2⟩ (fun hHeld => ?_)
                clear hK K
                try simp only [Act.put, List.setIfInBounds_toArray, List.set_cons_zero, List.set_cons_succ]
                refine wpAnyH_ready (rs := [3]) (by kernel_rfl) (by simp) ?_
                refine AllReadyH.cons rfl (fun K hK => ?_) AllReadyH.nil
                go_simp
                go_at_call 18
                refine (CR1.out _ bv4).mono ?_
                rintro e V5 ⟨⟨rr, rfl, hw2⟩, bv5'⟩
                obtain ⟨Ar3, cr3, rfl⟩ := slice_form hw2
                have bv5 : Below W8.heap.size W8 V5 := bv4.trans (bv5'.mono bv4.size)
                have hw1' := own_below hw1 bv5'
                have CE := Lib.hid (rsame_self V5.heap.size V5.heap.size _ _ F1 V5 (St.of_own' hw1' (fun q hq => by have := (hw1'.lt q hq).2; omega)) (St.of_own' hw2 (fun q hq => by have := (hw2.lt q hq).2; omega)) HFL1'.out)
                try go_wp2_with fail
                refine hK.out _ _ ⟨cell_later bv5 HC8.out.1, cell_later bv5 HC8.out.2.1, cell_later bv5 HC8.out.2.2.1, cell_later bv5 HC8.out.2.2.2⟩ (fun hHeld => ?_)
                clear hK K
                try simp only [Act.put, List.setIfInBounds_toArray, List.set_cons_zero, List.set_cons_succ]
                refine wpAnyH_ready (rs := [4]) (by kernel_rfl) (by simp) ?_
                refine AllReadyH.cons rfl (fun K hK => ?_) AllReadyH.nil
                go_simp
                go_at_call 16
                refine (CE.out).mono ?_
                rintro e V6 ⟨rfl, bv6'⟩
                have bv6 : Below W8.heap.size W8 V6 := bv5.trans (bv6'.mono bv5.size)
                try go_wp2_with fail
                refine hK.out _ _ ⟨cell_later bv6 HC8.out.1, cell_later bv6 HC8.out.2.1, cell_later bv6 HC8.out.2.2.1, cell_later bv6 HC8.out.2.2.2⟩ (fun hHeld => ?_)
                clear hK K
                try simp only [Act.put, List.setIfInBounds_toArray, List.set_cons_zero, List.set_cons_succ]
                clear CE hw1 hw1' hw2
                refine takeD (i := 5) (d := some 115) (v := ?_) _ rfl rfl (by kernel_rfl) (by kernel_rfl) (by kernel_rfl) (fun _ _ _ h => h) (by rfl) ?_ (by assumption) ?_
                rotate_left
                · (intro w hSw; (try dsimp only at hSw); go_simp) <;> with_reducible rfl
                try simp only [Act.put, List.setIfInBounds_toArray, List.set_cons_zero, List.set_cons_succ]
                refine takeD (i := 6) (d := some 116) (v := ?_) _ rfl rfl (by kernel_rfl) (by kernel_rfl) (by kernel_rfl) (fun _ _ _ h => h) (by rfl) ?_ (by assumption) ?_
                rotate_left
                · (intro w hSw; (try dsimp only at hSw); go_simp) <;> with_reducible rfl
                try simp only [Act.put, List.setIfInBounds_toArray, List.set_cons_zero, List.set_cons_succ]
                refine takeD (i := 7) (d := some 117) (v := ?_) _ rfl rfl (by kernel_rfl) (by kernel_rfl) (by kernel_rfl) (fun _ _ _ h => h) (by rfl) ?_ (by assumption) ?_
                rotate_left
                · (intro w hSw; (try dsimp only at hSw); go_simp) <;> with_reducible rfl
                try simp only [Act.put, List.setIfInBounds_toArray, List.set_cons_zero, List.set_cons_succ]
                refine takeD (i := 8) (d := some 118) (v := ?_) _ rfl rfl (by kernel_rfl) (by kernel_rfl) (by kernel_rfl) (fun _ _ _ h => h) (by rfl) ?_ (by assumption) ?_
                rotate_left
                · (intro w hSw; (try dsimp only at hSw); go_simp) <;> with_reducible rfl
                try simp only [Act.put, List.setIfInBounds_toArray, List.set_cons_zero, List.set_cons_succ]
                refine takeD (i := 10) (d := some 120) (v := ?_) _ rfl rfl (by kernel_rfl) (by kernel_rfl) (by kernel_rfl) (fun _ _ _ h => h) (by rfl) ?_ (by assumption) ?_
                rotate_left
                · (intro w hSw; (try dsimp only at hSw); go_simp) <;> with_reducible rfl
                try simp only [Act.put, List.setIfInBounds_toArray, List.set_cons_zero, List.set_cons_succ]
                refine wpAnyH_ready (rs := [9]) (by kernel_rfl) (by simp) ?_
                refine AllReadyH.cons rfl (fun K hK => ?_) AllReadyH.nil
                go_simp
                go_at_call 25
                refine (CS12.out _ bv6).mono ?_
                rintro e V7 ⟨rfl, bv7'⟩
                have bv7 : Below W8.heap.size W8 V7 := bv6.trans (bv7'.mono bv6.size)
                try go_wp2_with fail
                refine hK.out _ _ ⟨cell_later bv7 HC8.out.1, cell_later bv7 HC8.out.2.1, cell_later bv7 HC8.out.2.2.1, cell_later bv7 HC8.out.2.2.2⟩ (fun hHeld => ?_)
                clear hK K
                try simp only [Act.put, List.setIfInBounds_toArray, List.set_cons_zero, List.set_cons_succ]
                refine takeD (i := 11) (d := some 121) (v := ?_) _ rfl rfl (by kernel_rfl) (by kernel_rfl) (by kernel_rfl) (fun _ _ _ h => h) (by rfl) ?_ (by assumption) ?_
                rotate_left
                · (intro w hSw; (try dsimp only at hSw); go_simp) <;> with_reducible rfl
                try simp only [Act.put, List.setIfInBounds_toArray, List.set_cons_zero, List.set_cons_succ]
                refine takeD (i := 12) (d := some 122) (v := ?_) _ rfl rfl (by kernel_rfl) (by kernel_rfl) (by kernel_rfl) (fun _ _ _ h => h) (by rfl) ?_ (by assumption) ?_
                rotate_left
                · (intro w hSw; (try dsimp only at hSw); go_simp) <;> with_reducible rfl
                try simp only [Act.put, List.setIfInBounds_toArray, List.set_cons_zero, List.set_cons_succ]
                refine takeD (i := 13) (d := some 123) (v := ?_) _ rfl rfl (by kernel_rfl) (by kernel_rfl) (by kernel_rfl) (fun _ _ _ h => h) (by rfl) ?_ (by assumption) ?_
                rotate_left
                · (intro w hSw; (try dsimp only at hSw); go_simp) <;> with_reducible rfl
                try simp only [Act.put, List.setIfInBounds_toArray, List.set_cons_zero, List.set_cons_succ]
                refine takeD (i := 14) (d := some 124) (v := ?_) _ rfl rfl (by kernel_rfl) (by kernel_rfl) (by kernel_rfl) (fun _ _ _ h => h) (by rfl) ?_ (by assumption) ?_
                rotate_left
                · (intro w hSw; (try dsimp only at hSw); go_simp) <;> with_reducible rfl
                try simp only [Act.put, List.setIfInBounds_toArray, List.set_cons_zero, List.set_cons_succ]
                refine takeD (i := 15) (d := some 125) (v := ?_) _ rfl rfl (by kernel_rfl) (by kernel_rfl) (by kernel_rfl) (fun _ _ _ h => h) (by rfl) ?_ (by assumption) ?_
                rotate_left
                · (intro w hSw; (try dsimp only at hSw); go_simp) <;> with_reducible rfl
                try simp only [Act.put, List.setIfInBounds_toArray, List.set_cons_zero, List.set_cons_succ]
                refine takeD (i := 17) (d := some 127) (v := ?_) _ rfl rfl (by kernel_rfl) (by kernel_rfl) (by kernel_rfl) (fun _ _ _ h => h) (by rfl) ?_ (by assumption) ?_
                rotate_left
                · (intro w hSw; (try dsimp only at hSw); go_simp) <;> with_reducible rfl
                try simp only [Act.put, List.setIfInBounds_toArray, List.set_cons_zero, List.set_cons_succ]
                refine wpAnyH_ready (rs := [16]) (by kernel_rfl) (by simp) ?_
                refine AllReadyH.cons rfl (fun K hK => ?_) AllReadyH.nil
                go_simp
                go_at_call 25
                refine (CS21.out _ bv7).mono ?_
                rintro e V8 ⟨rfl, bv8'⟩
                have bv8 : Below W8.heap.size W8 V8 := bv7.trans (bv8'.mono bv7.size)
                try go_wp2_with fail
                refine hK.out _ _ ⟨cell_later bv8 HC8.out.1, cell_later bv8 HC8.out.2.1, cell_later bv8 HC8.out.2.2.1, cell_later bv8 HC8.out.2.2.2⟩ (fun hHeld => ?_)
                clear hK K
                try simp only [Act.put, List.setIfInBounds_toArray, List.set_cons_zero, List.set_cons_succ]
                refine takeD (i := 18) (d := some 128) (v := ?_) _ rfl rfl (by kernel_rfl) (by kernel_rfl) (by kernel_rfl) (fun _ _ _ h => h) (by rfl) ?_ (by assumption) ?_
                rotate_left
                · (intro w hSw; (try dsimp only at hSw); go_simp) <;> with_reducible rfl
                try simp only [Act.put, List.setIfInBounds_toArray, List.set_cons_zero, List.set_cons_succ]
                refine takeD (i := 19) (d := some 129) (v := ?_) _ rfl rfl (by kernel_rfl) (by kernel_rfl) (by kernel_rfl) (fun _ _ _ h => h) (by rfl) ?_ (by assumption) ?_
                rotate_left
                · (intro w hSw; (try dsimp only at hSw); go_simp) <;> with_reducible rfl
                try simp only [Act.put, List.setIfInBounds_toArray, List.set_cons_zero, List.set_cons_succ]
                refine wpAnyH_done (by kernel_rfl) ?_ _
                have HA9 := Lib.hid (HA8.out.below bv8)
                have HB9 := Lib.hid (HB8.out.below bv8)
                have HR29 := Lib.hid (HR28.out.below bv8)
                have HR149 := Lib.hid (HR148.out.below bv8)
                clear hHeld bv4 bv4' bv5 bv5' bv6 bv6' bv7 bv7' bv8 bv8'
                go_wp2_with fail
                go_roundw
                case rel =>
                  have Q : Cl2Rel nt lo hi p rb b8 lo2 hi2 p2 rb2 b14 (.slice A2 n1 c2) (.slice Ak mk ck) own LL w wo (.int .i64 ((k : Int) + 1)) V8 := ⟨⟨k + 1, A5, m5, c5, LL', HX1.out, HX.out, by go_num, HA9.out, HB9.out, HR29.out, HR149.out⟩⟩
                  first | exact Q | ((repeat apply Exists.intro); exact ⟨Q, rfl⟩)
                case measure => have := HX1.out; simp [intOf]; omega
              · have HT12 : Hid (decide (F1 = F2) = false) := by unfold Hid; simp [hFF]
                have HT21 : Hid (decide (F2 = F1) = false) := decide_eq_false (fun h => hFF h.symm)
                rw [HT12.out] at CS12
                rw [HT21.out] at CS21
                clear hFF
                go_wp2_with fail
                have HC8 : Hid (W8.cell? ⟨b8, 0, none⟩ = some (.slice A2 n1 c2) ∧ W8.cell? ⟨b8, 1, none⟩ = some (.slice Ak mk ck) ∧ W8.cell? ⟨b14, 0, none⟩ = some (.slice A2 n1 c2) ∧ W8.cell? ⟨b14, 1, none⟩ = some (.slice A5 m5 c5)) := ⟨HA8.out.cells.1, HA8.out.cells.2.1, HB8.out.cells.1, HB8.out.cells.2.1⟩
                refine wp_region_held_drew (S := (fun w' => w'.cell? ⟨b8, 0, none⟩ = some (.slice A2 n1 c2) ∧ w'.cell? ⟨b8, 1, none⟩ = some (.slice Ak mk ck) ∧ w'.cell? ⟨b14, 0, none⟩ = some (.slice A2 n1 c2) ∧ w'.cell? ⟨b14, 1, none⟩ = some (.slice A5 m5 c5))) (by kernel_rfl) ?_ (fun hHeld => ?_)
                · exact HC8.out
                refine takeD (i := 0) (d := some 105) (v := ?_) _ rfl rfl (by kernel_rfl) (by kernel_rfl) (by kernel_rfl) (fun _ _ _ h => h) (by rfl) ?_ (by assumption) ?_
                rotate_left
                · (intro w hSw; (try dsimp only at hSw); go_simp) <;> with_reducible rfl
                try simp only [Act.put, List.setIfInBounds_toArray, List.set_cons_zero, List.set_cons_succ]
                refine takeD (i := 2) (d := some 107) (v := ?_) _ rfl rfl (by kernel_rfl) (by kernel_rfl) (by kernel_rfl) (fun _ _ _ h => h) (by rfl) ?_ (by assumption) ?_
                rotate_left
                · (intro w hSw; (try dsimp only at hSw); go_simp) <;> with_reducible rfl
                try simp only [Act.put, List.setIfInBounds_toArray, List.set_cons_zero, List.set_cons_succ]
                refine wpAnyH_ready (rs := [1]) (by kernel_rfl) (by simp) ?_
                refine AllReadyH.cons rfl (fun K hK => ?_) AllReadyH.nil
                go_simp
                go_at_call 18
                refine (CR1.out _ (below_drewN (Below.refl _ _) 1)).mono ?_
                rintro e V1 ⟨⟨rr, rfl, hw1⟩, bv1'⟩
                obtain ⟨Ar, cr, rfl⟩ := slice_form hw1
                have bv1 : Below W8.heap.size W8 V1 := (below_drewN (Below.refl _ _) 1).trans bv1'
                try go_wp2_with fail
                refine hK.out _ _ ⟨cell_later bv1 HC8.out.1, cell_later bv1 HC8.out.2.1, cell_later bv1 HC8.out.2.2.1, cell_later bv1 HC8.out.2.2.2⟩ (fun hHeld => ?_)
                clear hK K
                try simp only [Act.put, List.setIfInBounds_toArray, List.set_cons_zero, List.set_cons_succ]
                refine wpAnyH_ready (rs := [3]) (by kernel_rfl) (by simp) ?_
                refine AllReadyH.cons rfl (fun K hK => ?_) AllReadyH.nil
                go_simp
                go_at_call 18
                refine (CR2.out _ bv1).mono ?_
                rintro e V2 ⟨⟨rr, rfl, hw2⟩, bv2'⟩
                obtain ⟨Ar2, cr2, rfl⟩ := slice_form hw2
                have bv2 : Below W8.heap.size W8 V2 := bv1.trans (bv2'.mono bv1.size)
                have hw1' := own_below hw1 bv2'
                have CE := Lib.hid (rsame_any V2.heap.size V2.heap.size _ _ F1 F2 V2 (St.of_own' hw1' (fun q hq => by have := (hw1'.lt q hq).2; omega)) (St.of_own' hw2 (fun q hq => by have := (hw2.lt q hq).2; omega)) HFL1'.out)
                rw [HT12.out] at CE
                try go_wp2_with fail
                refine hK.out _ _ ⟨cell_later bv2 HC8.out.1, cell_later bv2 HC8.out.2.1, cell_later bv2 HC8.out.2.2.1, cell_later bv2 HC8.out.2.2.2⟩ (fun hHeld => ?_)
                clear hK K
                try simp only [Act.put, List.setIfInBounds_toArray, List.set_cons_zero, List.set_cons_succ]
                refine wpAnyH_ready (rs := [4]) (by kernel_rfl) (by simp) ?_
                refine AllReadyH.cons rfl (fun K hK => ?_) AllReadyH.nil
                go_simp
                go_at_call 16
                refine (CE.out).mono ?_
                rintro e V3 ⟨rfl, bv3'⟩
                have bv3 : Below W8.heap.size W8 V3 := bv2.trans (bv3'.mono bv2.size)
                try go_wp2_with fail
                refine hK.out _ _ ⟨cell_later bv3 HC8.out.1, cell_later bv3 HC8.out.2.1, cell_later bv3 HC8.out.2.2.1, cell_later bv3 HC8.out.2.2.2⟩ (fun hHeld => ?_)
                clear hK K
                try simp only [Act.put, List.setIfInBounds_toArray, List.set_cons_zero, List.set_cons_succ]
                refine takeD (i := 5) (d := some 16) (v := ?_) _ rfl rfl (by kernel_rfl) (by kernel_rfl) (by kernel_rfl) (fun _ _ _ h => h) (by rfl) ?_ (by assumption) ?_
                rotate_left
                · (intro w hSw; (try dsimp only at hSw); go_simp) <;> with_reducible rfl
                try simp only [Act.put, List.setIfInBounds_toArray, List.set_cons_zero, List.set_cons_succ]
                refine wpAnyH_done (by kernel_rfl) ?_ _
                have HBV3 := Lib.hid bv3
                clear hHeld bv1 bv1' bv2 bv2' bv3 bv3' hw1 hw1' hw2 CE
                go_wp2_with fail
                refine wp_region_held_drew (S := (fun w' => w'.cell? ⟨b8, 0, none⟩ = some (.slice A2 n1 c2) ∧ w'.cell? ⟨b8, 1, none⟩ = some (.slice Ak mk ck) ∧ w'.cell? ⟨b14, 0, none⟩ = some (.slice A2 n1 c2) ∧ w'.cell? ⟨b14, 1, none⟩ = some (.slice A5 m5 c5))) (by kernel_rfl) ?_ (fun hHeld => ?_)
                · exact ⟨cell_later (HBV3.out.trans ((below_drewN (Below.refl _ _) 1).mono HBV3.out.size)) HC8.out.1, cell_later (HBV3.out.trans ((below_drewN (Below.refl _ _) 1).mono HBV3.out.size)) HC8.out.2.1, cell_later (HBV3.out.trans ((below_drewN (Below.refl _ _) 1).mono HBV3.out.size)) HC8.out.2.2.1, cell_later (HBV3.out.trans ((below_drewN (Below.refl _ _) 1).mono HBV3.out.size)) HC8.out.2.2.2⟩
                refine takeD (i := 0) (d := some 110) (v := ?_) _ rfl rfl (by kernel_rfl) (by kernel_rfl) (by kernel_rfl) (fun _ _ _ h => h) (by rfl) ?_ (by assumption) ?_
                rotate_left
                · (intro w hSw; (try dsimp only at hSw); go_simp) <;> with_reducible rfl
                try simp only [Act.put, List.setIfInBounds_toArray, List.set_cons_zero, List.set_cons_succ]
                refine takeD (i := 2) (d := some 112) (v := ?_) _ rfl rfl (by kernel_rfl) (by kernel_rfl) (by kernel_rfl) (fun _ _ _ h => h) (by rfl) ?_ (by assumption) ?_
                rotate_left
                · (intro w hSw; (try dsimp only at hSw); go_simp) <;> with_reducible rfl
                try simp only [Act.put, List.setIfInBounds_toArray, List.set_cons_zero, List.set_cons_succ]
                refine wpAnyH_ready (rs := [1]) (by kernel_rfl) (by simp) ?_
                refine AllReadyH.cons rfl (fun K hK => ?_) AllReadyH.nil
                go_simp
                go_at_call 17
                refine (CW1.out _ (HBV3.out.trans ((below_drewN (Below.refl _ _) 1).mono HBV3.out.size))).mono ?_
                rintro e V4 ⟨⟨kk, cc, rfl, hw1⟩, bv4'⟩
                have bv4 : Below W8.heap.size W8 V4 := (HBV3.out.trans ((below_drewN (Below.refl _ _) 1).mono HBV3.out.size)).trans (bv4'.mono (Nat.le_trans HBV3.out.size (below_drewN (Below.refl V3.heap.size V3) 1).size))
                try go_wp2_with fail
                refine hK.out _ _ ⟨cell_later bv4 HC8.out.1, cell_later bv4 HC8.out.2.1, cell_later bv4 HC8.out.2.2.1, cell_later bv4 HC8.out.2.2.2⟩ (fun hHeld => ?_)
                clear hK K
                try simp only [Act.put, List.setIfInBounds_toArray, List.set_cons_zero, List.set_cons_succ]
                refine wpAnyH_ready (rs := [3]) (by kernel_rfl) (by simp) ?_
                refine AllReadyH.cons rfl (fun K hK => ?_) AllReadyH.nil
                go_simp
                go_at_call 18
                refine (CR1.out _ bv4).mono ?_
                rintro e V5 ⟨⟨rr, rfl, hw2⟩, bv5'⟩
                obtain ⟨Ar3, cr3, rfl⟩ := slice_form hw2
                have bv5 : Below W8.heap.size W8 V5 := bv4.trans (bv5'.mono bv4.size)
                have hw1' := own_below hw1 bv5'
                have CE := Lib.hid (rsame_self V5.heap.size V5.heap.size _ _ F1 V5 (St.of_own' hw1' (fun q hq => by have := (hw1'.lt q hq).2; omega)) (St.of_own' hw2 (fun q hq => by have := (hw2.lt q hq).2; omega)) HFL1'.out)
                try go_wp2_with fail
                refine hK.out _ _ ⟨cell_later bv5 HC8.out.1, cell_later bv5 HC8.out.2.1, cell_later bv5 HC8.out.2.2.1, cell_later bv5 HC8.out.2.2.2⟩ (fun hHeld => ?_)
                clear hK K
                try simp only [Act.put, List.setIfInBounds_toArray, List.set_cons_zero, List.set_cons_succ]
                refine wpAnyH_ready (rs := [4]) (by kernel_rfl) (by simp) ?_
                refine AllReadyH.cons rfl (fun K hK => ?_) AllReadyH.nil
                go_simp
                go_at_call 16
                refine (CE.out).mono ?_
                rintro e V6 ⟨rfl, bv6'⟩
                have bv6 : Below W8.heap.size W8 V6 := bv5.trans (bv6'.mono bv5.size)
                try go_wp2_with fail
                refine hK.out _ _ ⟨cell_later bv6 HC8.out.1, cell_later bv6 HC8.out.2.1, cell_later bv6 HC8.out.2.2.1, cell_later bv6 HC8.out.2.2.2⟩ (fun hHeld => ?_)
                clear hK K
                try simp only [Act.put, List.setIfInBounds_toArray, List.set_cons_zero, List.set_cons_succ]
                clear CE hw1 hw1' hw2
                refine takeD (i := 5) (d := some 115) (v := ?_) _ rfl rfl (by kernel_rfl) (by kernel_rfl) (by kernel_rfl) (fun _ _ _ h => h) (by rfl) ?_ (by assumption) ?_
                rotate_left
                · (intro w hSw; (try dsimp only at hSw); go_simp) <;> with_reducible rfl
                try simp only [Act.put, List.setIfInBounds_toArray, List.set_cons_zero, List.set_cons_succ]
                refine takeD (i := 6) (d := some 116) (v := ?_) _ rfl rfl (by kernel_rfl) (by kernel_rfl) (by kernel_rfl) (fun _ _ _ h => h) (by rfl) ?_ (by assumption) ?_
                rotate_left
                · (intro w hSw; (try dsimp only at hSw); go_simp) <;> with_reducible rfl
                try simp only [Act.put, List.setIfInBounds_toArray, List.set_cons_zero, List.set_cons_succ]
                refine takeD (i := 7) (d := some 117) (v := ?_) _ rfl rfl (by kernel_rfl) (by kernel_rfl) (by kernel_rfl) (fun _ _ _ h => h) (by rfl) ?_ (by assumption) ?_
                rotate_left
                · (intro w hSw; (try dsimp only at hSw); go_simp) <;> with_reducible rfl
                try simp only [Act.put, List.setIfInBounds_toArray, List.set_cons_zero, List.set_cons_succ]
                refine takeD (i := 8) (d := some 118) (v := ?_) _ rfl rfl (by kernel_rfl) (by kernel_rfl) (by kernel_rfl) (fun _ _ _ h => h) (by rfl) ?_ (by assumption) ?_
                rotate_left
                · (intro w hSw; (try dsimp only at hSw); go_simp) <;> with_reducible rfl
                try simp only [Act.put, List.setIfInBounds_toArray, List.set_cons_zero, List.set_cons_succ]
                refine takeD (i := 10) (d := some 120) (v := ?_) _ rfl rfl (by kernel_rfl) (by kernel_rfl) (by kernel_rfl) (fun _ _ _ h => h) (by rfl) ?_ (by assumption) ?_
                rotate_left
                · (intro w hSw; (try dsimp only at hSw); go_simp) <;> with_reducible rfl
                try simp only [Act.put, List.setIfInBounds_toArray, List.set_cons_zero, List.set_cons_succ]
                refine wpAnyH_ready (rs := [9]) (by kernel_rfl) (by simp) ?_
                refine AllReadyH.cons rfl (fun K hK => ?_) AllReadyH.nil
                go_simp
                go_at_call 25
                refine (CS12.out _ bv6).mono ?_
                rintro e V7 ⟨rfl, bv7'⟩
                have bv7 : Below W8.heap.size W8 V7 := bv6.trans (bv7'.mono bv6.size)
                try go_wp2_with fail
                refine hK.out _ _ ⟨cell_later bv7 HC8.out.1, cell_later bv7 HC8.out.2.1, cell_later bv7 HC8.out.2.2.1, cell_later bv7 HC8.out.2.2.2⟩ (fun hHeld => ?_)
                clear hK K
                try simp only [Act.put, List.setIfInBounds_toArray, List.set_cons_zero, List.set_cons_succ]
                refine takeD (i := 11) (d := some 121) (v := ?_) _ rfl rfl (by kernel_rfl) (by kernel_rfl) (by kernel_rfl) (fun _ _ _ h => h) (by rfl) ?_ (by assumption) ?_
                rotate_left
                · (intro w hSw; (try dsimp only at hSw); go_simp) <;> with_reducible rfl
                try simp only [Act.put, List.setIfInBounds_toArray, List.set_cons_zero, List.set_cons_succ]
                refine takeD (i := 12) (d := some 122) (v := ?_) _ rfl rfl (by kernel_rfl) (by kernel_rfl) (by kernel_rfl) (fun _ _ _ h => h) (by rfl) ?_ (by assumption) ?_
                rotate_left
                · (intro w hSw; (try dsimp only at hSw); go_simp) <;> with_reducible rfl
                try simp only [Act.put, List.setIfInBounds_toArray, List.set_cons_zero, List.set_cons_succ]
                refine takeD (i := 13) (d := some 123) (v := ?_) _ rfl rfl (by kernel_rfl) (by kernel_rfl) (by kernel_rfl) (fun _ _ _ h => h) (by rfl) ?_ (by assumption) ?_
                rotate_left
                · (intro w hSw; (try dsimp only at hSw); go_simp) <;> with_reducible rfl
                try simp only [Act.put, List.setIfInBounds_toArray, List.set_cons_zero, List.set_cons_succ]
                refine takeD (i := 14) (d := some 124) (v := ?_) _ rfl rfl (by kernel_rfl) (by kernel_rfl) (by kernel_rfl) (fun _ _ _ h => h) (by rfl) ?_ (by assumption) ?_
                rotate_left
                · (intro w hSw; (try dsimp only at hSw); go_simp) <;> with_reducible rfl
                try simp only [Act.put, List.setIfInBounds_toArray, List.set_cons_zero, List.set_cons_succ]
                refine takeD (i := 15) (d := some 125) (v := ?_) _ rfl rfl (by kernel_rfl) (by kernel_rfl) (by kernel_rfl) (fun _ _ _ h => h) (by rfl) ?_ (by assumption) ?_
                rotate_left
                · (intro w hSw; (try dsimp only at hSw); go_simp) <;> with_reducible rfl
                try simp only [Act.put, List.setIfInBounds_toArray, List.set_cons_zero, List.set_cons_succ]
                refine takeD (i := 17) (d := some 127) (v := ?_) _ rfl rfl (by kernel_rfl) (by kernel_rfl) (by kernel_rfl) (fun _ _ _ h => h) (by rfl) ?_ (by assumption) ?_
                rotate_left
                · (intro w hSw; (try dsimp only at hSw); go_simp) <;> with_reducible rfl
                try simp only [Act.put, List.setIfInBounds_toArray, List.set_cons_zero, List.set_cons_succ]
                refine wpAnyH_ready (rs := [16]) (by kernel_rfl) (by simp) ?_
                refine AllReadyH.cons rfl (fun K hK => ?_) AllReadyH.nil
                go_simp
                go_at_call 25
                refine (CS21.out _ bv7).mono ?_
                rintro e V8 ⟨rfl, bv8'⟩
                have bv8 : Below W8.heap.size W8 V8 := bv7.trans (bv8'.mono bv7.size)
                try go_wp2_with fail
                refine hK.out _ _ ⟨cell_later bv8 HC8.out.1, cell_later bv8 HC8.out.2.1, cell_later bv8 HC8.out.2.2.1, cell_later bv8 HC8.out.2.2.2⟩ (fun hHeld => ?_)
                clear hK K
                try simp only [Act.put, List.setIfInBounds_toArray, List.set_cons_zero, List.set_cons_succ]
                refine takeD (i := 18) (d := some 128) (v := ?_) _ rfl rfl (by kernel_rfl) (by kernel_rfl) (by kernel_rfl) (fun _ _ _ h => h) (by rfl) ?_ (by assumption) ?_
                rotate_left
                · (intro w hSw; (try dsimp only at hSw); go_simp) <;> with_reducible rfl
                try simp only [Act.put, List.setIfInBounds_toArray, List.set_cons_zero, List.set_cons_succ]
                refine takeD (i := 19) (d := some 129) (v := ?_) _ rfl rfl (by kernel_rfl) (by kernel_rfl) (by kernel_rfl) (fun _ _ _ h => h) (by rfl) ?_ (by assumption) ?_
                rotate_left
                · (intro w hSw; (try dsimp only at hSw); go_simp) <;> with_reducible rfl
                try simp only [Act.put, List.setIfInBounds_toArray, List.set_cons_zero, List.set_cons_succ]
                refine wpAnyH_done (by kernel_rfl) ?_ _
                have HA9 := Lib.hid (HA8.out.below bv8)
                have HB9 := Lib.hid (HB8.out.below bv8)
                have HR29 := Lib.hid (HR28.out.below bv8)
                have HR149 := Lib.hid (HR148.out.below bv8)
                clear hHeld bv4 bv4' bv5 bv5' bv6 bv6' bv7 bv7' bv8 bv8'
                go_wp2_with fail
                go_roundw
                case rel =>
                  have Q : Cl2Rel nt lo hi p rb b8 lo2 hi2 p2 rb2 b14 (.slice A2 n1 c2) (.slice Ak mk ck) own LL w wo (.int .i64 ((k : Int) + 1)) V8 := ⟨⟨k + 1, A5, m5, c5, LL', HX1.out, HX.out, by go_num, HA9.out, HB9.out, HR29.out, HR149.out⟩⟩
                  first | exact Q | ((repeat apply Exists.intro); exact ⟨Q, rfl⟩)
                case measure => have := HX1.out; simp [intOf]; omega
            · have hk1 : k = 50 := by have := HK.out; omega
              subst hk1
              clear hlt hl100
              have HFL2 : Hid (LY.flatten.length ≤ 5000) := by have := HBB.out.sh.flat; have := HBB.out.sh.sum; unfold Hid; omega
              have CW2 := Lib.hid fun (W : World) (hb : Below wr.heap.size wr W) => words_any lo2 hi2 p2 rb2 own LY.flatten W (HBB.out.sp.below hb) HFL2.out
              have CR2 := Lib.hid fun (W : World) (hb : Below wr.heap.size wr W) => rwords_any rb2 (.slice A2 n1 c2) (.slice Ay my cy) own LY W (HBB.out.rs.below hb) (by rw [HBB.out.sh.len]; exact HBB.out.sh.few) HFL2.out
              obtain ⟨F2, hF2⟩ : ∃ F2, LY.flatten = F2 := ⟨_, rfl⟩
              rw [hF2] at CW2 CR2 HFL2
              have HT22 : Hid (decide (F2 = F2) = true) := by unfold Hid; simp
              have HC14 : Hid (wr.cell? ⟨b14, 0, none⟩ = some (.slice A2 n1 c2) ∧ wr.cell? ⟨b14, 1, none⟩ = some (.slice Ay my cy)) := ⟨HBB.out.cells.1, HBB.out.cells.2.1⟩
              clear hF2
              go_wp2_with fail
              refine wp_region_held_drew (S := (fun w' => w'.cell? ⟨b14, 0, none⟩ = some (.slice A2 n1 c2) ∧ w'.cell? ⟨b14, 1, none⟩ = some (.slice Ay my cy))) (by kernel_rfl) ?_ (fun hHeld => ?_)
              · exact HC14.out
              refine takeD (i := 0) (d := some 130) (v := ?_) _ rfl rfl (by kernel_rfl) (by kernel_rfl) (by kernel_rfl) (fun _ _ _ h => h) (by rfl) ?_ (by assumption) ?_
              rotate_left
              · (intro w hSw; (try dsimp only at hSw); go_simp) <;> with_reducible rfl
              try simp only [Act.put, List.setIfInBounds_toArray, List.set_cons_zero, List.set_cons_succ]
              refine takeD (i := 2) (d := some 132) (v := ?_) _ rfl rfl (by kernel_rfl) (by kernel_rfl) (by kernel_rfl) (fun _ _ _ h => h) (by rfl) ?_ (by assumption) ?_
              rotate_left
              · (intro w hSw; (try dsimp only at hSw); go_simp) <;> with_reducible rfl
              try simp only [Act.put, List.setIfInBounds_toArray, List.set_cons_zero, List.set_cons_succ]
              refine wpAnyH_ready (rs := [1]) (by kernel_rfl) (by simp) ?_
              refine AllReadyH.cons rfl (fun K hK => ?_) AllReadyH.nil
              go_simp
              go_at_call 17
              refine (CW2.out _ (below_drewN (Below.refl _ _) 1)).mono ?_
              rintro e V4 ⟨⟨kk, cc, rfl, hw1⟩, bv4'⟩
              have bv4 : Below wr.heap.size wr V4 := (below_drewN (Below.refl _ _) 1).trans bv4'
              try go_wp2_with fail
              refine hK.out _ _ ⟨cell_later bv4 HC14.out.1, cell_later bv4 HC14.out.2⟩ (fun hHeld => ?_)
              clear hK K
              try simp only [Act.put, List.setIfInBounds_toArray, List.set_cons_zero, List.set_cons_succ]
              refine wpAnyH_ready (rs := [3]) (by kernel_rfl) (by simp) ?_
              refine AllReadyH.cons rfl (fun K hK => ?_) AllReadyH.nil
              go_simp
              go_at_call 18
              refine (CR2.out _ bv4).mono ?_
              rintro e V5 ⟨⟨rr, rfl, hw2⟩, bv5'⟩
              obtain ⟨Ar3, cr3, rfl⟩ := slice_form hw2
              have bv5 : Below wr.heap.size wr V5 := bv4.trans (bv5'.mono bv4.size)
              have hw1' := own_below hw1 bv5'
              have CE := Lib.hid (rsame_self V5.heap.size V5.heap.size _ _ F2 V5 (St.of_own' hw1' (fun q hq => by have := (hw1'.lt q hq).2; omega)) (St.of_own' hw2 (fun q hq => by have := (hw2.lt q hq).2; omega)) HFL2.out)
              try go_wp2_with fail
              refine hK.out _ _ ⟨cell_later bv5 HC14.out.1, cell_later bv5 HC14.out.2⟩ (fun hHeld => ?_)
              clear hK K
              try simp only [Act.put, List.setIfInBounds_toArray, List.set_cons_zero, List.set_cons_succ]
              refine wpAnyH_ready (rs := [4]) (by kernel_rfl) (by simp) ?_
              refine AllReadyH.cons rfl (fun K hK => ?_) AllReadyH.nil
              go_simp
              go_at_call 16
              refine (CE.out).mono ?_
              rintro e V6 ⟨rfl, bv6'⟩
              have bv6 : Below wr.heap.size wr V6 := bv5.trans (bv6'.mono bv5.size)
              try go_wp2_with fail
              refine hK.out _ _ ⟨cell_later bv6 HC14.out.1, cell_later bv6 HC14.out.2⟩ (fun hHeld => ?_)
              clear hK K
              try simp only [Act.put, List.setIfInBounds_toArray, List.set_cons_zero, List.set_cons_succ]
              refine takeD (i := 5) (d := some 6) (v := ?_) _ rfl rfl (by kernel_rfl) (by kernel_rfl) (by kernel_rfl) (fun _ _ _ h => h) (by rfl) ?_ (by assumption) ?_
              rotate_left
              · (intro w hSw; (try dsimp only at hSw); go_simp) <;> with_reducible rfl
              try simp only [Act.put, List.setIfInBounds_toArray, List.set_cons_zero, List.set_cons_succ]
              refine wpAnyH_done (by kernel_rfl) ?_ _
              have HBZ : Hid (Below w.heap.size w V6) := HBA.out.bel.trans (bv6.mono HBA.out.bel.size)
              clear hHeld bv4 bv4' bv5 bv5' bv6 bv6' hw1 hw1' hw2 CE
              go_wp2_with fail
              go_ret
              exact ⟨rfl, HBZ.out⟩
          · have hkIc : ¬ ((k : Int) < (nt : Int)) := by omega
            clear hlt
            have HFL2 : Hid (LY.flatten.length ≤ 5000) := by have := HBB.out.sh.flat; have := HBB.out.sh.sum; unfold Hid; omega
            have CW2 := Lib.hid fun (W : World) (hb : Below wr.heap.size wr W) => words_any lo2 hi2 p2 rb2 own LY.flatten W (HBB.out.sp.below hb) HFL2.out
            have CR2 := Lib.hid fun (W : World) (hb : Below wr.heap.size wr W) => rwords_any rb2 (.slice A2 n1 c2) (.slice Ay my cy) own LY W (HBB.out.rs.below hb) (by rw [HBB.out.sh.len]; exact HBB.out.sh.few) HFL2.out
            obtain ⟨F2, hF2⟩ : ∃ F2, LY.flatten = F2 := ⟨_, rfl⟩
            rw [hF2] at CW2 CR2 HFL2
            have HT22 : Hid (decide (F2 = F2) = true) := by unfold Hid; simp
            have HC14 : Hid (wr.cell? ⟨b14, 0, none⟩ = some (.slice A2 n1 c2) ∧ wr.cell? ⟨b14, 1, none⟩ = some (.slice Ay my cy)) := ⟨HBB.out.cells.1, HBB.out.cells.2.1⟩
            clear hF2
            go_wp2_with fail
            refine wp_region_held_drew (S := (fun w' => w'.cell? ⟨b14, 0, none⟩ = some (.slice A2 n1 c2) ∧ w'.cell? ⟨b14, 1, none⟩ = some (.slice Ay my cy))) (by kernel_rfl) ?_ (fun hHeld => ?_)
            · exact HC14.out
            refine takeD (i := 0) (d := some 130) (v := ?_) _ rfl rfl (by kernel_rfl) (by kernel_rfl) (by kernel_rfl) (fun _ _ _ h => h) (by rfl) ?_ (by assumption) ?_
            rotate_left
            · (intro w hSw; (try dsimp only at hSw); go_simp) <;> with_reducible rfl
            try simp only [Act.put, List.setIfInBounds_toArray, List.set_cons_zero, List.set_cons_succ]
            refine takeD (i := 2) (d := some 132) (v := ?_) _ rfl rfl (by kernel_rfl) (by kernel_rfl) (by kernel_rfl) (fun _ _ _ h => h) (by rfl) ?_ (by assumption) ?_
            rotate_left
            · (intro w hSw; (try dsimp only at hSw); go_simp) <;> with_reducible rfl
            try simp only [Act.put, List.setIfInBounds_toArray, List.set_cons_zero, List.set_cons_succ]
            refine wpAnyH_ready (rs := [1]) (by kernel_rfl) (by simp) ?_
            refine AllReadyH.cons rfl (fun K hK => ?_) AllReadyH.nil
            go_simp
            go_at_call 17
            refine (CW2.out _ (below_drewN (Below.refl _ _) 1)).mono ?_
            rintro e V4 ⟨⟨kk, cc, rfl, hw1⟩, bv4'⟩
            have bv4 : Below wr.heap.size wr V4 := (below_drewN (Below.refl _ _) 1).trans bv4'
            try go_wp2_with fail
            refine hK.out _ _ ⟨cell_later bv4 HC14.out.1, cell_later bv4 HC14.out.2⟩ (fun hHeld => ?_)
            clear hK K
            try simp only [Act.put, List.setIfInBounds_toArray, List.set_cons_zero, List.set_cons_succ]
            refine wpAnyH_ready (rs := [3]) (by kernel_rfl) (by simp) ?_
            refine AllReadyH.cons rfl (fun K hK => ?_) AllReadyH.nil
            go_simp
            go_at_call 18
            refine (CR2.out _ bv4).mono ?_
            rintro e V5 ⟨⟨rr, rfl, hw2⟩, bv5'⟩
            obtain ⟨Ar3, cr3, rfl⟩ := slice_form hw2
            have bv5 : Below wr.heap.size wr V5 := bv4.trans (bv5'.mono bv4.size)
            have hw1' := own_below hw1 bv5'
            have CE := Lib.hid (rsame_self V5.heap.size V5.heap.size _ _ F2 V5 (St.of_own' hw1' (fun q hq => by have := (hw1'.lt q hq).2; omega)) (St.of_own' hw2 (fun q hq => by have := (hw2.lt q hq).2; omega)) HFL2.out)
            try go_wp2_with fail
            refine hK.out _ _ ⟨cell_later bv5 HC14.out.1, cell_later bv5 HC14.out.2⟩ (fun hHeld => ?_)
            clear hK K
            try simp only [Act.put, List.setIfInBounds_toArray, List.set_cons_zero, List.set_cons_succ]
            refine wpAnyH_ready (rs := [4]) (by kernel_rfl) (by simp) ?_
            refine AllReadyH.cons rfl (fun K hK => ?_) AllReadyH.nil
            go_simp
            go_at_call 16
            refine (CE.out).mono ?_
            rintro e V6 ⟨rfl, bv6'⟩
            have bv6 : Below wr.heap.size wr V6 := bv5.trans (bv6'.mono bv5.size)
            try go_wp2_with fail
            refine hK.out _ _ ⟨cell_later bv6 HC14.out.1, cell_later bv6 HC14.out.2⟩ (fun hHeld => ?_)
            clear hK K
            try simp only [Act.put, List.setIfInBounds_toArray, List.set_cons_zero, List.set_cons_succ]
            refine takeD (i := 5) (d := some 6) (v := ?_) _ rfl rfl (by kernel_rfl) (by kernel_rfl) (by kernel_rfl) (fun _ _ _ h => h) (by rfl) ?_ (by assumption) ?_
            rotate_left
            · (intro w hSw; (try dsimp only at hSw); go_simp) <;> with_reducible rfl
            try simp only [Act.put, List.setIfInBounds_toArray, List.set_cons_zero, List.set_cons_succ]
            refine wpAnyH_done (by kernel_rfl) ?_ _
            have HBZ : Hid (Below w.heap.size w V6) := HBA.out.bel.trans (bv6.mono HBA.out.bel.size)
            clear hHeld bv4 bv4' bv5 bv5' bv6 bv6' hw1 hw1' hw2 CE
            go_wp2_with fail
            go_ret
            exact ⟨rfl, HBZ.out⟩
    · have hkIc : ¬ ((k : Int) < (no : Int)) := by omega
      clear hlt
      have HFL1 : Hid (LL.flatten.length ≤ 5000) := by have := HBS.out.sh.flat; have := HBS.out.sh.sum; unfold Hid; omega
      have CC := Lib.hid (clone_any lo hi p rb own LL.flatten wr HBS.out.sp HBS.out.sh.few HFL1.out)
      go_wp2_with fail
      refine CC.out.mono ?_
      rintro e W6 ⟨⟨p2, rb2, rfl, hsp2⟩, b6⟩
      obtain ⟨wo, hwo⟩ : ∃ wo, wo = wr := ⟨_, rfl⟩
      subst hwo
      obtain ⟨lo2, hl2⟩ : ∃ lo2, wo.heap.size = lo2 := ⟨_, rfl⟩
      obtain ⟨hi2, hh2⟩ : ∃ hi2, W6.heap.size = hi2 := ⟨_, rfl⟩
      rw [hl2, hh2] at hsp2
      have HSP2 := Lib.hid hsp2
      have HA6 := Lib.hid (HBS.out.below b6)
      have HL2 : Hid (wo.heap.size = lo2 ∧ b8 < lo2 ∧ hi ≤ lo2 ∧ p < lo2) := by have := HBS.out.lt; have := HBS.out.sp.hs; have := HBS.out.sp.hp; unfold Hid; omega
      have hne : p2 ≠ p := by have := HL2.out; have := HSP2.out.hp; omega
      have he2 : ∀ w : World, (binOp .eql 25 (.pointer (some ⟨p2, 0, none⟩)) (.pointer none)).run Try.prog w = .ok (.bool false) w := fun _ => rfl
      have hpp := sp_far HSP2.out HA6.out.sp hne
      have HB6 := Lib.hid b6
      have CS1 := Lib.hid (same_any lo2 hi2 p2 rb2 lo hi p rb own LL.flatten LL.flatten W6 HSP2.out HA6.out.sp HBS.out.sh.few HFL1.out)
      have CS2 := Lib.hid fun (W : World) (hb : Below W6.heap.size W6 W) => same_any lo hi p rb lo2 hi2 p2 rb2 own LL.flatten LL.flatten W (HA6.out.sp.below hb) (HSP2.out.below hb) HBS.out.sh.few HFL1.out
      have hff : decide (LL.flatten = LL.flatten) = true := by simp
      rw [hff] at CS1 CS2
      have CS3 := Lib.hid (same_some_nil p)
      clear b6 hsp2 hl2 hh2 CC hne hff
      go_wp2_with fail
      refine CS1.out.mono ?_
      rintro e W7 ⟨rfl, b7⟩
      clear CS1
      go_wp2_with fail
      refine (CS2.out W7 b7).mono ?_
      rintro e W8 ⟨rfl, b8'⟩
      have B8 : Hid (Below W6.heap.size W6 W8) := b7.trans (b8'.mono b7.size)
      clear CS2 b7 b8'
      go_wp2_with fail
      refine (CS3.out W8).mono ?_
      rintro e W9 ⟨rfl, b9⟩
      have B9 : Hid (Below W6.heap.size W6 W9) := B8.out.trans (b9.mono B8.out.size)
      clear CS3 b9 B8 hpp he2
      have HA9 := Lib.hid (HA6.out.below B9.out)
      have x0 := HA9.out.cells.1
      have x1 := HA9.out.cells.2.1
      go_wp2_with fail
      obtain ⟨W10, hW10⟩ : ∃ W10, W9.alloc (.cells #[.slice A2 n1 c2, .slice Ak mk ck] 31) = W10 := ⟨_, rfl⟩
      simp only [hW10]
      have b910 : Below W9.heap.size W9 W10 := by rw [← hW10]; exact (Below.refl _ _).alloc (Nat.le_refl _) _
      obtain ⟨b14, hb14⟩ : ∃ b14, W9.heap.size = b14 := ⟨_, rfl⟩
      have hq10 : W10.heap[b14]? = some (.cells #[.slice A2 n1 c2, .slice Ak mk ck] 31 (0, 0)) := by rw [← hW10, ← hb14]; exact heap_alloc_new _ _
      have BO9 : Hid (Below wo.heap.size wo W9) := HB6.out.trans (B9.out.mono HB6.out.size)
      have BO10 : Hid (Below wo.heap.size wo W10) := BO9.out.trans (b910.mono BO9.out.size)
      have HA10 := Lib.hid (HA9.out.below b910)
      have HR2 : Hid (RS rb2 W10 (.slice A2 n1 c2) (.slice Ak mk ck) own LL) := (HBS.out.rs.fresh (by have := HL2.out.1; have := HSP2.out.hr.1; omega)).below BO10.out
      have HR14 : Hid (RS b14 W10 (.slice A2 n1 c2) (.slice Ak mk ck) own LL) := (HA9.out.rs.fresh (by rw [← hb14]; exact Nat.le_refl _)).below b910
      have HB10 : Hid (BS lo2 hi2 p2 rb2 b14 (.slice A2 n1 c2) (.slice Ak mk ck) own LL wo W10) :=
        ⟨(HSP2.out.below B9.out).below b910, HBS.out.sh, HR2.out, HR14.out, hq10, BO10.out, by have := HL2.out.1; have := HSP2.out.hr; have := (HSP2.out.below B9.out).hs; omega⟩
      have HOR : Hid (w.heap.size ≤ rb2 ∧ hi ≤ rb2 ∧ rb2 ≠ b8 ∧ hi ≤ b14 ∧ b14 ≠ b8) := by
        have := HL2.out; have := HB10.out.ord; have := HBS.out.ord; have := HSP2.out.hr
        unfold Hid; omega
      try simp only [hb14]
      clear hW10 b910 hb14 hq10 x0 x1 HA6 HA9 HB6 B9 BO9 BO10 HSP2 HBS HK HKN HL2
      go_loopw [15] (fun v wr => Cl2Rel nt lo hi p rb b8 lo2 hi2 p2 rb2 b14 (.slice A2 n1 c2) (.slice Ak mk ck) own LL w wo v wr) (fun v => fun _ => 50 - (intOf v).toNat)
      case atStart => exact ⟨⟨0, Ak, mk, ck, LL, Nat.zero_le _, Nat.zero_le _, rfl, HA10.out, HB10.out, HR2.out, HR14.out⟩⟩
      case round =>
        clear HA10 HB10 HR2 HR14
        obtain ⟨⟨k, Ay, my, cy, LY, hk, hkn, rfl, hba, hbb, hr2, hr14⟩⟩ := hrel
        have HK := Lib.hid hk
        have HKN := Lib.hid hkn
        have HBA := Lib.hid hba
        have HBB := Lib.hid hbb
        have HR2 := Lib.hid hr2
        have HR14 := Lib.hid hr14
        clear hk hkn hba hbb hr2 hr14
        by_cases hlt : k < nt
        · have hkI : (k : Int) < (nt : Int) := by omega
          by_cases hl100 : k < 50
          · have hk100 : (k : Int) < 50 := by omega
            have HX : Hid (k < nt) := hlt
            have HX1 : Hid (k < 50) := hl100
            obtain ⟨hnx, b, off, x, cs, rfl, hbl, hx, hR, hcl, hc⟩ := HT.out.at_ k hlt
            clear hnx hcl
            obtain ⟨a2, q2, rfl, hu1, hu2, hcap, hus, hstx⟩ := hR
            obtain ⟨xk, xa, xw, xkeep, xs⟩ := x
            dsimp only at hu1 hu2 hcap hus hstx hc
            obtain ⟨xn, hxn⟩ : ∃ xn, xs.length = xn := ⟨_, rfl⟩
            rw [hxn] at hc hcap hstx
            have HBL : Hid (b < w.heap.size) := hbl
            have d0 : wr.cell? ⟨b, off + k * 5, none⟩ = some (.int .i64 xk) := cell_later HBA.out.bel (hc 0 _ rfl)
            have d1 : wr.cell? ⟨b, off + k * 5 + 1, none⟩ = some (.int .u32 xa) := cell_later HBA.out.bel (hc 1 _ rfl)
            have d2 : wr.cell? ⟨b, off + k * 5 + 2, none⟩ = some (.int .u32 xw) := cell_later HBA.out.bel (hc 2 _ rfl)
            have d3 : wr.cell? ⟨b, off + k * 5 + 3, none⟩ = some (.slice a2 xn q2) := cell_later HBA.out.bel (hc 3 _ rfl)
            have d4 : wr.cell? ⟨b, off + k * 5 + 4, none⟩ = some (.bool xkeep) := cell_later HBA.out.bel (hc 4 _ rfl)
            have HSX := Lib.hid (hstx rb2 HOR.out.1)
            have HXN := Lib.hid hxn
            have HU1 := Lib.hid hu1
            have HU2 := Lib.hid hu2
            have HCAP : Hid (∀ a n c, (Value.slice a2 xn q2) = .slice a n c → n ≤ c) := fun a n c e => by injection e with e1 e2 e3; omega
            have HUS := Lib.hid hus
            have BSD := Lib.hid (HBB.out.below (below_drewN (Below.refl _ _) 1))
            have HBW : Hid (Below w.heap.size w (wr.drewN 1)) := HBA.out.bel.trans ((below_drewN (Below.refl _ _) 1).mono HBA.out.bel.size)
            have CD := Lib.hid (do_any lo2 hi2 p2 rb2 (.slice A2 n1 c2) (.slice Ay my cy) (.slice a2 xn q2) own LY xk xa xw xkeep xs (wr.drewN 1) BSD.out.sp BSD.out.rs BSD.out.sh HU1.out HU2.out (by rw [hxn]; exact HSX.out.below HBW.out) HCAP.out HUS.out)
            have x0 := HBB.out.cells.1
            have x1 := HBB.out.cells.2.1
            have x0' : wr.drew.cell? ⟨b14, 0, none⟩ = some (.slice A2 n1 c2) := x0
            have x1' : wr.drew.cell? ⟨b14, 1, none⟩ = some (.slice Ay my cy) := x1
            have HDS := Lib.hid (And.intro d0 (And.intro d1 (And.intro d2 (And.intro d3 d4))))
            clear hc hlt hl100 hbl hx hu1 hu2 hcap hus hstx hxn d0 d1 d2 d3 d4
            go_wp2_with fail
            refine wp_region_held_drew (S := (fun w' => w'.cell? ⟨b, off + k * 5, none⟩ = some (.int .i64 xk) ∧ w'.cell? ⟨b, off + k * 5 + 1, none⟩ = some (.int .u32 xa) ∧ w'.cell? ⟨b, off + k * 5 + 2, none⟩ = some (.int .u32 xw) ∧ w'.cell? ⟨b, off + k * 5 + 3, none⟩ = some (.slice a2 xn q2) ∧ w'.cell? ⟨b, off + k * 5 + 4, none⟩ = some (.bool xkeep))) (by kernel_rfl) ?_ (fun hHeld => ?_)
            · exact HDS.out
            refine takeD (i := 0) (d := some 96) (v := ?_) _ rfl rfl (by kernel_rfl) (by kernel_rfl) (by kernel_rfl) (fun _ _ _ h => h) (by rfl) ?_ (by assumption) ?_
            rotate_left
            · (intro w hSw; (try dsimp only at hSw); go_simp) <;> with_reducible rfl
            try simp only [Act.put, List.setIfInBounds_toArray, List.set_cons_zero, List.set_cons_succ]
            refine takeD (i := 2) (d := some 98) (v := ?_) _ rfl rfl (by kernel_rfl) (by kernel_rfl) (by kernel_rfl) (fun _ _ _ h => h) (by rfl) ?_ (by assumption) ?_
            rotate_left
            · (intro w hSw; (try dsimp only at hSw); go_simp) <;> with_reducible rfl
            try simp only [Act.put, List.setIfInBounds_toArray, List.set_cons_zero, List.set_cons_succ]
            refine takeD (i := 3) (d := some 99) (v := ?_) _ rfl rfl (by kernel_rfl) (by kernel_rfl) (by kernel_rfl) (fun _ _ _ h => h) (by rfl) ?_ (by assumption) ?_
            rotate_left
            · (intro w hSw; (try dsimp only at hSw); go_simp) <;> with_reducible rfl
            try simp only [Act.put, List.setIfInBounds_toArray, List.set_cons_zero, List.set_cons_succ]
            refine takeD (i := 4) (d := some 100) (v := ?_) _ rfl rfl (by kernel_rfl) (by kernel_rfl) (by kernel_rfl) (fun _ _ _ h => h) (by rfl) ?_ (by assumption) ?_
            rotate_left
            · (intro w hSw; (try dsimp only at hSw); go_simp) <;> with_reducible rfl
            try simp only [Act.put, List.setIfInBounds_toArray, List.set_cons_zero, List.set_cons_succ]
            refine takeD (i := 5) (d := some 101) (v := ?_) _ rfl rfl (by kernel_rfl) (by kernel_rfl) (by kernel_rfl) (fun _ _ _ h => h) (by rfl) ?_ (by assumption) ?_
            rotate_left
            · (intro w hSw; (try dsimp only at hSw); go_simp) <;> with_reducible rfl
            try simp only [Act.put, List.setIfInBounds_toArray, List.set_cons_zero, List.set_cons_succ]
            refine wpAnyH_ready (rs := [1]) (by kernel_rfl) (by simp) ?_
            refine AllReadyH.cons rfl (fun K hK => ?_) AllReadyH.nil
            go_simp
            refine hK.out _ _ hHeld (fun hHeld => ?_)
            clear hK K x0 x1 x0' x1'
            try simp only [Act.put, List.setIfInBounds_toArray, List.set_cons_zero, List.set_cons_succ]
            refine wpAnyH_ready (rs := [6]) (by kernel_rfl) (by simp) ?_
            refine AllReadyH.cons rfl (fun K hK => ?_) AllReadyH.nil
            go_simp
            go_at_call 15
            refine CD.out.mono ?_
            rintro e W3 ⟨vl', LL', rfl, hsp3, htn3, hsh3, hp3⟩
            obtain ⟨A5, c5, rfl⟩ : ∃ A5 c5, vl' = .slice A5 LL'.length c5 := by
              obtain ⟨_, _, A5, c5, _, e⟩ := (htn3 rb2 BSD.out.lt.1 BSD.out.rs).form
              exact ⟨A5, c5, e⟩
            obtain ⟨m5, hm5⟩ : ∃ m5, LL'.length = m5 := ⟨_, rfl⟩
            rw [hm5] at htn3 ⊢
            have HTN3 := Lib.hid htn3
            have HSP3 := Lib.hid hsp3
            have HSH3 := Lib.hid hsh3
            have HP3 := Lib.hid hp3
            have hrx := HOR.out.1
            have hbl := HBL.out
            have hox := HBB.out.ord
            have hsz := HBW.out.size
            have HBK : Hid (b < W3.heap.size ∧ b ≠ b14) := by have := hp3.size; unfold Hid; omega
            try go_wp2_with fail
            refine hK.out _ _ ⟨cell_past hp3 (by omega) (by omega) hHeld.1, cell_past hp3 (by omega) (by omega) hHeld.2.1, cell_past hp3 (by omega) (by omega) hHeld.2.2.1, cell_past hp3 (by omega) (by omega) hHeld.2.2.2.1, cell_past hp3 (by omega) (by omega) hHeld.2.2.2.2⟩ (fun hHeld => ?_)
            clear hK K hrx hbl hox hsz hsp3 htn3 hsh3 hm5 CD
            try simp only [Act.put, List.setIfInBounds_toArray, List.set_cons_zero, List.set_cons_succ]
            refine takeD (i := 7) (d := some 95) (v := ?_) _ rfl rfl (by kernel_rfl) (by kernel_rfl) (by kernel_rfl) (fun _ _ _ h => h) (by rfl) ?_ (by assumption) ?_
            rotate_left
            · (intro w hSw; (try dsimp only at hSw); go_simp) <;> with_reducible rfl
            try simp only [Act.put, List.setIfInBounds_toArray, List.set_cons_zero, List.set_cons_succ]
            refine takeD (i := 8) (d := some 103) (v := ?_) _ rfl rfl (by kernel_rfl) (by kernel_rfl) (by kernel_rfl) (fun _ _ _ h => h) (by rfl) ?_ (by assumption) ?_
            rotate_left
            · (intro w hSw; (try dsimp only at hSw); go_simp) <;> with_reducible rfl
            try simp only [Act.put, List.setIfInBounds_toArray, List.set_cons_zero, List.set_cons_succ]
            refine takeD (i := 9) (d := some 104) (v := ?_) _ rfl rfl (by kernel_rfl) (by kernel_rfl) (by kernel_rfl) (fun _ _ _ h => h) (by rfl) ?_ (by assumption) ?_
            rotate_left
            · (intro w hSw; (try dsimp only at hSw); go_simp) <;> with_reducible rfl
            try simp only [Act.put, List.setIfInBounds_toArray, List.set_cons_zero, List.set_cons_succ]
            have hq3 := hp_keep hp3 (by have := HBB.out.ord; omega) BSD.out.q
            have z0 := (row_cell hq3 0).1
            have z1 := (row_cell hq3 1).1
            have zf0 := (row_cell hq3 0).2
            have zf1 := (row_cell hq3 1).2
            simp at z0 z1
            have HH := Lib.hid hHeld
            have PX8 := Lib.hid (((Past.refl b14 W3).setCell 0 (.slice A2 n1 c2)).setCell 1 (.slice A5 m5 c5))
            clear hq3 hp3
            refine wpAnyH_ready (rs := [10]) (by kernel_rfl) (by simp) ?_
            refine AllReadyH.cons rfl (fun K hK => ?_) AllReadyH.nil
            go_simp
            refine hK.out _ _ ⟨cell_past PX8.out HBK.out.1 HBK.out.2 HH.out.1, cell_past PX8.out HBK.out.1 HBK.out.2 HH.out.2.1, cell_past PX8.out HBK.out.1 HBK.out.2 HH.out.2.2.1, cell_past PX8.out HBK.out.1 HBK.out.2 HH.out.2.2.2.1, cell_past PX8.out HBK.out.1 HBK.out.2 HH.out.2.2.2.2⟩ (fun hHeld => ?_)
            clear hK K z0 z1 zf0 zf1
            try simp only [Act.put, List.setIfInBounds_toArray, List.set_cons_zero, List.set_cons_succ]
            refine wpAnyH_done (by kernel_rfl) ?_ _
            have HB8 := Lib.hid (BSD.out.does HSP3.out HTN3.out HSH3.out HP3.out)
            have bdr : Below wr.heap.size wr (wr.drewN 1) := below_drewN (Below.refl _ _) 1
            have HR23 := Lib.hid ((HR2.out.below bdr).past HP3.out)
            have HR143 := Lib.hid ((HR14.out.below bdr).both (HR2.out.below bdr) HP3.out)
            have HA3 := Lib.hid ((HBA.out.below bdr).other (HR2.out.below bdr) ⟨HOR.out.2.1, HOR.out.2.2.1⟩ HP3.out)
            have HA8 := Lib.hid (HA3.out.other HR143.out ⟨HOR.out.2.2.2.1, HOR.out.2.2.2.2⟩ PX8.out)
            have HR28 := Lib.hid (HR23.out.both HR143.out PX8.out)
            have HR148 := Lib.hid (HR143.out.past PX8.out)
            obtain ⟨W8, hW8⟩ : ∃ W8, (W3.setCell ⟨b14, 0, none⟩ (.slice A2 n1 c2)).setCell ⟨b14, 1, none⟩ (.slice A5 m5 c5) = W8 := ⟨_, rfl⟩
            simp only [hW8] at HB8 HA8 HR28 HR148 ⊢
            clear hHeld hW8 bdr HR23 HR143 HA3 PX8 HH HP3 HSP3 HTN3 HSH3 BSD
            have HFL2 : Hid (LL'.flatten.length ≤ 5000) := by have := HB8.out.sh.flat; have := HB8.out.sh.sum; unfold Hid; omega
            have CW1 := Lib.hid fun (W : World) (hb : Below W8.heap.size W8 W) => words_any lo hi p rb own LL.flatten W (HA8.out.sp.below hb) HFL1.out
            have CR1 := Lib.hid fun (W : World) (hb : Below W8.heap.size W8 W) => rwords_any rb (.slice A2 n1 c2) (.slice Ak mk ck) own LL W (HA8.out.rs.below hb) (by rw [HA8.out.sh.len]; exact HA8.out.sh.few) HFL1.out
            have CR2 := Lib.hid fun (W : World) (hb : Below W8.heap.size W8 W) => rwords_any rb2 (.slice A2 n1 c2) (.slice A5 m5 c5) own LL' W (HB8.out.rs.below hb) (by rw [HB8.out.sh.len]; exact HB8.out.sh.few) HFL2.out
            have CS12 := Lib.hid fun (W : World) (hb : Below W8.heap.size W8 W) => same_any lo hi p rb lo2 hi2 p2 rb2 own LL.flatten LL'.flatten W (HA8.out.sp.below hb) (HB8.out.sp.below hb) HA8.out.sh.few HFL1.out
            have CS21 := Lib.hid fun (W : World) (hb : Below W8.heap.size W8 W) => same_any lo2 hi2 p2 rb2 lo hi p rb own LL'.flatten LL.flatten W (HB8.out.sp.below hb) (HA8.out.sp.below hb) HA8.out.sh.few HFL2.out
            obtain ⟨F1, hF1⟩ : ∃ F1, LL.flatten = F1 := ⟨_, rfl⟩
            obtain ⟨F2, hF2⟩ : ∃ F2, LL'.flatten = F2 := ⟨_, rfl⟩
            have HFL1' : Hid (F1.length ≤ 5000) := by rw [← hF1]; exact HFL1.out
            rw [hF1] at CW1 CR1 CS12 CS21
            rw [hF2] at HFL2 CR2 CS12 CS21
            have HT11 : Hid (decide (F1 = F1) = true) := by unfold Hid; simp
            clear hF1 hF2
            by_cases hFF : F1 = F2
            · have HT12 : Hid (decide (F1 = F2) = true) := by unfold Hid; simp [hFF]
              have HT21 : Hid (decide (F2 = F1) = true) := by unfold Hid; simp [hFF]
              rw [HT12.out] at CS12
              rw [HT21.out] at CS21
              clear hFF
              go_wp2_with fail
              have HC8 : Hid (W8.cell? ⟨b8, 0, none⟩ = some (.slice A2 n1 c2) ∧ W8.cell? ⟨b8, 1, none⟩ = some (.slice Ak mk ck) ∧ W8.cell? ⟨b14, 0, none⟩ = some (.slice A2 n1 c2) ∧ W8.cell? ⟨b14, 1, none⟩ = some (.slice A5 m5 c5)) := ⟨HA8.out.cells.1, HA8.out.cells.2.1, HB8.out.cells.1, HB8.out.cells.2.1⟩
              refine wp_region_held_drew (S := (fun w' => w'.cell? ⟨b8, 0, none⟩ = some (.slice A2 n1 c2) ∧ w'.cell? ⟨b8, 1, none⟩ = some (.slice Ak mk ck) ∧ w'.cell? ⟨b14, 0, none⟩ = some (.slice A2 n1 c2) ∧ w'.cell? ⟨b14, 1, none⟩ = some (.slice A5 m5 c5))) (by kernel_rfl) ?_ (fun hHeld => ?_)
              · exact HC8.out
              refine takeD (i := 0) (d := some 105) (v := ?_) _ rfl rfl (by kernel_rfl) (by kernel_rfl) (by kernel_rfl) (fun _ _ _ h => h) (by rfl) ?_ (by assumption) ?_
              rotate_left
              · (intro w hSw; (try dsimp only at hSw); go_simp) <;> with_reducible rfl
              try simp only [Act.put, List.setIfInBounds_toArray, List.set_cons_zero, List.set_cons_succ]
              refine takeD (i := 2) (d := some 107) (v := ?_) _ rfl rfl (by kernel_rfl) (by kernel_rfl) (by kernel_rfl) (fun _ _ _ h => h) (by rfl) ?_ (by assumption) ?_
              rotate_left
              · (intro w hSw; (try dsimp only at hSw); go_simp) <;> with_reducible rfl
              try simp only [Act.put, List.setIfInBounds_toArray, List.set_cons_zero, List.set_cons_succ]
              refine wpAnyH_ready (rs := [1]) (by kernel_rfl) (by simp) ?_
              refine AllReadyH.cons rfl (fun K hK => ?_) AllReadyH.nil
              go_simp
              go_at_call 18
              refine (CR1.out _ (below_drewN (Below.refl _ _) 1)).mono ?_
              rintro e V1 ⟨⟨rr, rfl, hw1⟩, bv1'⟩
              obtain ⟨Ar, cr, rfl⟩ := slice_form hw1
              have bv1 : Below W8.heap.size W8 V1 := (below_drewN (Below.refl _ _) 1).trans bv1'
              try go_wp2_with fail
              refine hK.out _ _ ⟨cell_later bv1 HC8.out.1, cell_later bv1 HC8.out.2.1, cell_later bv1 HC8.out.2.2.1, cell_later bv1 HC8.out.2.2.2⟩ (fun hHeld => ?_)
              clear hK K
              try simp only [Act.put, List.setIfInBounds_toArray, List.set_cons_zero, List.set_cons_succ]
              refine wpAnyH_ready (rs := [3]) (by kernel_rfl) (by simp) ?_
              refine AllReadyH.cons rfl (fun K hK => ?_) AllReadyH.nil
              go_simp
              go_at_call 18
              refine (CR2.out _ bv1).mono ?_
              rintro e V2 ⟨⟨rr, rfl, hw2⟩, bv2'⟩
              obtain ⟨Ar2, cr2, rfl⟩ := slice_form hw2
              have bv2 : Below W8.heap.size W8 V2 := bv1.trans (bv2'.mono bv1.size)
              have hw1' := own_below hw1 bv2'
              have CE := Lib.hid (rsame_any V2.heap.size V2.heap.size _ _ F1 F2 V2 (St.of_own' hw1' (fun q hq => by have := (hw1'.lt q hq).2; omega)) (St.of_own' hw2 (fun q hq => by have := (hw2.lt q hq).2; omega)) HFL1'.out)
              rw [HT12.out] at CE
              try go_wp2_with fail
              refine hK.out _ _ ⟨cell_later bv2 HC8.out.1, cell_later bv2 HC8.out.2.1, cell_later bv2 HC8.out.2.2.1, cell_later bv2 HC8.out.2.2.2⟩ (fun hHeld => ?_)
              clear hK K
              try simp only [Act.put, List.setIfInBounds_toArray, List.set_cons_zero, List.set_cons_succ]
              refine wpAnyH_ready (rs := [4]) (by kernel_rfl) (by simp) ?_
              refine AllReadyH.cons rfl (fun K hK => ?_) AllReadyH.nil
              go_simp
              go_at_call 16
              refine (CE.out).mono ?_
              rintro e V3 ⟨rfl, bv3'⟩
              have bv3 : Below W8.heap.size W8 V3 := bv2.trans (bv3'.mono bv2.size)
              try go_wp2_with fail
              refine hK.out _ _ ⟨cell_later bv3 HC8.out.1, cell_later bv3 HC8.out.2.1, cell_later bv3 HC8.out.2.2.1, cell_later bv3 HC8.out.2.2.2⟩ (fun hHeld => ?_)
              clear hK K
              try simp only [Act.put, List.setIfInBounds_toArray, List.set_cons_zero, List.set_cons_succ]
              refine takeD (i := 5) (d := some 16) (v := ?_) _ rfl rfl (by kernel_rfl) (by kernel_rfl) (by kernel_rfl) (fun _ _ _ h => h) (by rfl) ?_ (by assumption) ?_
              rotate_left
              · (intro w hSw; (try dsimp only at hSw); go_simp) <;> with_reducible rfl
              try simp only [Act.put, List.setIfInBounds_toArray, List.set_cons_zero, List.set_cons_succ]
              refine wpAnyH_done (by kernel_rfl) ?_ _
              have HBV3 := Lib.hid bv3
              clear hHeld bv1 bv1' bv2 bv2' bv3 bv3' hw1 hw1' hw2 CE
              go_wp2_with fail
              refine wp_region_held_drew (S := (fun w' => w'.cell? ⟨b8, 0, none⟩ = some (.slice A2 n1 c2) ∧ w'.cell? ⟨b8, 1, none⟩ = some (.slice Ak mk ck) ∧ w'.cell? ⟨b14, 0, none⟩ = some (.slice A2 n1 c2) ∧ w'.cell? ⟨b14, 1, none⟩ = some (.slice A5 m5 c5))) (by kernel_rfl) ?_ (fun hHeld => ?_)
              · exact ⟨cell_later (HBV3.out.trans ((below_drewN (Below.refl _ _) 1).mono HBV3.out.size)) HC8.out.1, cell_later (HBV3.out.trans ((below_drewN (Below.refl _ _) 1).mono HBV3.out.size)) HC8.out.2.1, cell_later (HBV3.out.trans ((below_drewN (Below.refl _ _) 1).mono HBV3.out.size)) HC8.out.2.2.1, cell_later (HBV3.out.trans ((below_drewN (Below.refl _ _) 1).mono HBV3.out.size)) HC8.out.2.2.2⟩
              refine takeD (i := 0) (d := some 110) (v := ?_) _ rfl rfl (by kernel_rfl) (by kernel_rfl) (by kernel_rfl) (fun _ _ _ h => h) (by rfl) ?_ (by assumption) ?_
              rotate_left
              · (intro w hSw; (try dsimp only at hSw); go_simp) <;> with_reducible rfl
              try simp only [Act.put, List.setIfInBounds_toArray, List.set_cons_zero, List.set_cons_succ]
              refine takeD (i := 2) (d := some 112) (v := ?_) _ rfl rfl (by kernel_rfl) (by kernel_rfl) (by kernel_rfl) (fun _ _ _ h => h) (by rfl) ?_ (by assumption) ?_
              rotate_left
              · (intro w hSw; (try dsimp only at hSw); go_simp) <;> with_reducible rfl
              try simp only [Act.put, List.setIfInBounds_toArray, List.set_cons_zero, List.set_cons_succ]
              refine wpAnyH_ready (rs := [1]) (by kernel_rfl) (by simp) ?_
              refine AllReadyH.cons rfl (fun K hK => ?_) AllReadyH.nil
              go_simp
              go_at_call 17
              refine (CW1.out _ (HBV3.out.trans ((below_drewN (Below.refl _ _) 1).mono HBV3.out.size))).mono ?_
              rintro e V4 ⟨⟨kk, cc, rfl, hw1⟩, bv4'⟩
              have bv4 : Below W8.heap.size W8 V4 := (HBV3.out.trans ((below_drewN (Below.refl _ _) 1).mono HBV3.out.size)).trans (bv4'.mono (Nat.le_trans HBV3.out.size (below_drewN (Below.refl V3.heap.size V3) 1).size))
              try go_wp2_with fail
              refine hK.out _ _ ⟨cell_later bv4 HC8.out.1, cell_later bv4 HC8.out.2.1, cell_later bv4 HC8.out.2.2.1, cell_later bv4 HC8.out.2.2.2⟩ (fun hHeld => ?_)
              clear hK K
              try simp only [Act.put, List.setIfInBounds_toArray, List.set_cons_zero, List.set_cons_succ]
              refine wpAnyH_ready (rs := [3]) (by kernel_rfl) (by simp) ?_
              refine AllReadyH.cons rfl (fun K hK => ?_) AllReadyH.nil
              go_simp
              go_at_call 18
              refine (CR1.out _ bv4).mono ?_
              rintro e V5 ⟨⟨rr, rfl, hw2⟩, bv5'⟩
              obtain ⟨Ar3, cr3, rfl⟩ := slice_form hw2
              have bv5 : Below W8.heap.size W8 V5 := bv4.trans (bv5'.mono bv4.size)
              have hw1' := own_below hw1 bv5'
              have CE := Lib.hid (rsame_self V5.heap.size V5.heap.size _ _ F1 V5 (St.of_own' hw1' (fun q hq => by have := (hw1'.lt q hq).2; omega)) (St.of_own' hw2 (fun q hq => by have := (hw2.lt q hq).2; omega)) HFL1'.out)
              try go_wp2_with fail
              refine hK.out _ _ ⟨cell_later bv5 HC8.out.1, cell_later bv5 HC8.out.2.1, cell_later bv5 HC8.out.2.2.1, cell_later bv5 HC8.out.2.2.2⟩ (fun hHeld => ?_)
              clear hK K
              try simp only [Act.put, List.setIfInBounds_toArray, List.set_cons_zero, List.set_cons_succ]
              refine wpAnyH_ready (rs := [4]) (by kernel_rfl) (by simp) ?_
              refine AllReadyH.cons rfl (fun K hK => ?_) AllReadyH.nil
              go_simp
              go_at_call 16
              refine (CE.out).mono ?_
              rintro e V6 ⟨rfl, bv6'⟩
              have bv6 : Below W8.heap.size W8 V6 := bv5.trans (bv6'.mono bv5.size)
              try go_wp2_with fail
              refine hK.out _ _ ⟨cell_later bv6 HC8.out.1, cell_later bv6 HC8.out.2.1, cell_later bv6 HC8.out.2.2.1, cell_later bv6 HC8.out.2.2.2⟩ (fun hHeld => ?_)
              clear hK K
              try simp only [Act.put, List.setIfInBounds_toArray, List.set_cons_zero, List.set_cons_succ]
              clear CE hw1 hw1' hw2
              refine takeD (i := 5) (d := some 115) (v := ?_) _ rfl rfl (by kernel_rfl) (by kernel_rfl) (by kernel_rfl) (fun _ _ _ h => h) (by rfl) ?_ (by assumption) ?_
              rotate_left
              · (intro w hSw; (try dsimp only at hSw); go_simp) <;> with_reducible rfl
              try simp only [Act.put, List.setIfInBounds_toArray, List.set_cons_zero, List.set_cons_succ]
              refine takeD (i := 6) (d := some 116) (v := ?_) _ rfl rfl (by kernel_rfl) (by kernel_rfl) (by kernel_rfl) (fun _ _ _ h => h) (by rfl) ?_ (by assumption) ?_
              rotate_left
              · (intro w hSw; (try dsimp only at hSw); go_simp) <;> with_reducible rfl
              try simp only [Act.put, List.setIfInBounds_toArray, List.set_cons_zero, List.set_cons_succ]
              refine takeD (i := 7) (d := some 117) (v := ?_) _ rfl rfl (by kernel_rfl) (by kernel_rfl) (by kernel_rfl) (fun _ _ _ h => h) (by rfl) ?_ (by assumption) ?_
              rotate_left
              · (intro w hSw; (try dsimp only at hSw); go_simp) <;> with_reducible rfl
              try simp only [Act.put, List.setIfInBounds_toArray, List.set_cons_zero, List.set_cons_succ]
              refine takeD (i := 8) (d := some 118) (v := ?_) _ rfl rfl (by kernel_rfl) (by kernel_rfl) (by kernel_rfl) (fun _ _ _ h => h) (by rfl) ?_ (by assumption) ?_
              rotate_left
              · (intro w hSw; (try dsimp only at hSw); go_simp) <;> with_reducible rfl
              try simp only [Act.put, List.setIfInBounds_toArray, List.set_cons_zero, List.set_cons_succ]
              refine takeD (i := 10) (d := some 120) (v := ?_) _ rfl rfl (by kernel_rfl) (by kernel_rfl) (by kernel_rfl) (fun _ _ _ h => h) (by rfl) ?_ (by assumption) ?_
              rotate_left
              · (intro w hSw; (try dsimp only at hSw); go_simp) <;> with_reducible rfl
              try simp only [Act.put, List.setIfInBounds_toArray, List.set_cons_zero, List.set_cons_succ]
              refine wpAnyH_ready (rs := [9]) (by kernel_rfl) (by simp) ?_
              refine AllReadyH.cons rfl (fun K hK => ?_) AllReadyH.nil
              go_simp
              go_at_call 25
              refine (CS12.out _ bv6).mono ?_
              rintro e V7 ⟨rfl, bv7'⟩
              have bv7 : Below W8.heap.size W8 V7 := bv6.trans (bv7'.mono bv6.size)
              try go_wp2_with fail
              refine hK.out _ _ ⟨cell_later bv7 HC8.out.1, cell_later bv7 HC8.out.2.1, cell_later bv7 HC8.out.2.2.1, cell_later bv7 HC8.out.2.2.2⟩ (fun hHeld => ?_)
              clear hK K
              try simp only [Act.put, List.setIfInBounds_toArray, List.set_cons_zero, List.set_cons_succ]
              refine takeD (i := 11) (d := some 121) (v := ?_) _ rfl rfl (by kernel_rfl) (by kernel_rfl) (by kernel_rfl) (fun _ _ _ h => h) (by rfl) ?_ (by assumption) ?_
              rotate_left
              · (intro w hSw; (try dsimp only at hSw); go_simp) <;> with_reducible rfl
              try simp only [Act.put, List.setIfInBounds_toArray, List.set_cons_zero, List.set_cons_succ]
              refine takeD (i := 12) (d := some 122) (v := ?_) _ rfl rfl (by kernel_rfl) (by kernel_rfl) (by kernel_rfl) (fun _ _ _ h => h) (by rfl) ?_ (by assumption) ?_
              rotate_left
              · (intro w hSw; (try dsimp only at hSw); go_simp) <;> with_reducible rfl
              try simp only [Act.put, List.setIfInBounds_toArray, List.set_cons_zero, List.set_cons_succ]
              refine takeD (i := 13) (d := some 123) (v := ?_) _ rfl rfl (by kernel_rfl) (by kernel_rfl) (by kernel_rfl) (fun _ _ _ h => h) (by rfl) ?_ (by assumption) ?_
              rotate_left
              · (intro w hSw; (try dsimp only at hSw); go_simp) <;> with_reducible rfl
              try simp only [Act.put, List.setIfInBounds_toArray, List.set_cons_zero, List.set_cons_succ]
              refine takeD (i := 14) (d := some 124) (v := ?_) _ rfl rfl (by kernel_rfl) (by kernel_rfl) (by kernel_rfl) (fun _ _ _ h => h) (by rfl) ?_ (by assumption) ?_
              rotate_left
              · (intro w hSw; (try dsimp only at hSw); go_simp) <;> with_reducible rfl
              try simp only [Act.put, List.setIfInBounds_toArray, List.set_cons_zero, List.set_cons_succ]
              refine takeD (i := 15) (d := some 125) (v := ?_) _ rfl rfl (by kernel_rfl) (by kernel_rfl) (by kernel_rfl) (fun _ _ _ h => h) (by rfl) ?_ (by assumption) ?_
              rotate_left
              · (intro w hSw; (try dsimp only at hSw); go_simp) <;> with_reducible rfl
              try simp only [Act.put, List.setIfInBounds_toArray, List.set_cons_zero, List.set_cons_succ]
              refine takeD (i := 17) (d := some 127) (v := ?_) _ rfl rfl (by kernel_rfl) (by kernel_rfl) (by kernel_rfl) (fun _ _ _ h => h) (by rfl) ?_ (by assumption) ?_
              rotate_left
              · (intro w hSw; (try dsimp only at hSw); go_simp) <;> with_reducible rfl
              try simp only [Act.put, List.setIfInBounds_toArray, List.set_cons_zero, List.set_cons_succ]
              refine wpAnyH_ready (rs := [16]) (by kernel_rfl) (by simp) ?_
              refine AllReadyH.cons rfl (fun K hK => ?_) AllReadyH.nil
              go_simp
              go_at_call 25
              refine (CS21.out _ bv7).mono ?_
              rintro e V8 ⟨rfl, bv8'⟩
              have bv8 : Below W8.heap.size W8 V8 := bv7.trans (bv8'.mono bv7.size)
              try go_wp2_with fail
              refine hK.out _ _ ⟨cell_later bv8 HC8.out.1, cell_later bv8 HC8.out.2.1, cell_later bv8 HC8.out.2.2.1, cell_later bv8 HC8.out.2.2.2⟩ (fun hHeld => ?_)
              clear hK K
              try simp only [Act.put, List.setIfInBounds_toArray, List.set_cons_zero, List.set_cons_succ]
              refine takeD (i := 18) (d := some 128) (v := ?_) _ rfl rfl (by kernel_rfl) (by kernel_rfl) (by kernel_rfl) (fun _ _ _ h => h) (by rfl) ?_ (by assumption) ?_
              rotate_left
              · (intro w hSw; (try dsimp only at hSw); go_simp) <;> with_reducible rfl
              try simp only [Act.put, List.setIfInBounds_toArray, List.set_cons_zero, List.set_cons_succ]
              refine takeD (i := 19) (d := some 129) (v := ?_) _ rfl rfl (by kernel_rfl) (by kernel_rfl) (by kernel_rfl) (fun _ _ _ h => h) (by rfl) ?_ (by assumption) ?_
              rotate_left
              · (intro w hSw; (try dsimp only at hSw); go_simp) <;> with_reducible rfl
              try simp only [Act.put, List.setIfInBounds_toArray, List.set_cons_zero, List.set_cons_succ]
              refine wpAnyH_done (by kernel_rfl) ?_ _
              have HA9 := Lib.hid (HA8.out.below bv8)
              have HB9 := Lib.hid (HB8.out.below bv8)
              have HR29 := Lib.hid (HR28.out.below bv8)
              have HR149 := Lib.hid (HR148.out.below bv8)
              clear hHeld bv4 bv4' bv5 bv5' bv6 bv6' bv7 bv7' bv8 bv8'
              go_wp2_with fail
              go_roundw
              case rel =>
                have Q : Cl2Rel nt lo hi p rb b8 lo2 hi2 p2 rb2 b14 (.slice A2 n1 c2) (.slice Ak mk ck) own LL w wo (.int .i64 ((k : Int) + 1)) V8 := ⟨⟨k + 1, A5, m5, c5, LL', HX1.out, HX.out, by go_num, HA9.out, HB9.out, HR29.out, HR149.out⟩⟩
                first | exact Q | ((repeat apply Exists.intro); exact ⟨Q, rfl⟩)
              case measure => have := HX1.out; simp [intOf]; omega
            · have HT12 : Hid (decide (F1 = F2) = false) := by unfold Hid; simp [hFF]
              have HT21 : Hid (decide (F2 = F1) = false) := decide_eq_false (fun h => hFF h.symm)
              rw [HT12.out] at CS12
              rw [HT21.out] at CS21
              clear hFF
              go_wp2_with fail
              have HC8 : Hid (W8.cell? ⟨b8, 0, none⟩ = some (.slice A2 n1 c2) ∧ W8.cell? ⟨b8, 1, none⟩ = some (.slice Ak mk ck) ∧ W8.cell? ⟨b14, 0, none⟩ = some (.slice A2 n1 c2) ∧ W8.cell? ⟨b14, 1, none⟩ = some (.slice A5 m5 c5)) := ⟨HA8.out.cells.1, HA8.out.cells.2.1, HB8.out.cells.1, HB8.out.cells.2.1⟩
              refine wp_region_held_drew (S := (fun w' => w'.cell? ⟨b8, 0, none⟩ = some (.slice A2 n1 c2) ∧ w'.cell? ⟨b8, 1, none⟩ = some (.slice Ak mk ck) ∧ w'.cell? ⟨b14, 0, none⟩ = some (.slice A2 n1 c2) ∧ w'.cell? ⟨b14, 1, none⟩ = some (.slice A5 m5 c5))) (by kernel_rfl) ?_ (fun hHeld => ?_)
              · exact HC8.out
              refine takeD (i := 0) (d := some 105) (v := ?_) _ rfl rfl (by kernel_rfl) (by kernel_rfl) (by kernel_rfl) (fun _ _ _ h => h) (by rfl) ?_ (by assumption) ?_
              rotate_left
              · (intro w hSw; (try dsimp only at hSw); go_simp) <;> with_reducible rfl
              try simp only [Act.put, List.setIfInBounds_toArray, List.set_cons_zero, List.set_cons_succ]
              refine takeD (i := 2) (d := some 107) (v := ?_) _ rfl rfl (by kernel_rfl) (by kernel_rfl) (by kernel_rfl) (fun _ _ _ h => h) (by rfl) ?_ (by assumption) ?_
              rotate_left
              · (intro w hSw; (try dsimp only at hSw); go_simp) <;> with_reducible rfl
              try simp only [Act.put, List.setIfInBounds_toArray, List.set_cons_zero, List.set_cons_succ]
              refine wpAnyH_ready (rs := [1]) (by kernel_rfl) (by simp) ?_
              refine AllReadyH.cons rfl (fun K hK => ?_) AllReadyH.nil
              go_simp
              go_at_call 18
              refine (CR1.out _ (below_drewN (Below.refl _ _) 1)).mono ?_
              rintro e V1 ⟨⟨rr, rfl, hw1⟩, bv1'⟩
              obtain ⟨Ar, cr, rfl⟩ := slice_form hw1
              have bv1 : Below W8.heap.size W8 V1 := (below_drewN (Below.refl _ _) 1).trans bv1'
              try go_wp2_with fail
              refine hK.out _ _ ⟨cell_later bv1 HC8.out.1, cell_later bv1 HC8.out.2.1, cell_later bv1 HC8.out.2.2.1, cell_later bv1 HC8.out.2.2.2⟩ (fun hHeld => ?_)
              clear hK K
              try simp only [Act.put, List.setIfInBounds_toArray, List.set_cons_zero, List.set_cons_succ]
              refine wpAnyH_ready (rs := [3]) (by kernel_rfl) (by simp) ?_
              refine AllReadyH.cons rfl (fun K hK => ?_) AllReadyH.nil
              go_simp
              go_at_call 18
              refine (CR2.out _ bv1).mono ?_
              rintro e V2 ⟨⟨rr, rfl, hw2⟩, bv2'⟩
              obtain ⟨Ar2, cr2, rfl⟩ := slice_form hw2
              have bv2 : Below W8.heap.size W8 V2 := bv1.trans (bv2'.mono bv1.size)
              have hw1' := own_below hw1 bv2'
              have CE := Lib.hid (rsame_any V2.heap.size V2.heap.size _ _ F1 F2 V2 (St.of_own' hw1' (fun q hq => by have := (hw1'.lt q hq).2; omega)) (St.of_own' hw2 (fun q hq => by have := (hw2.lt q hq).2; omega)) HFL1'.out)
              rw [HT12.out] at CE
              try go_wp2_with fail
              refine hK.out _ _ ⟨cell_later bv2 HC8.out.1, cell_later bv2 HC8.out.2.1, cell_later bv2 HC8.out.2.2.1, cell_later bv2 HC8.out.2.2.2⟩ (fun hHeld => ?_)
              clear hK K
              try simp only [Act.put, List.setIfInBounds_toArray, List.set_cons_zero, List.set_cons_succ]
              refine wpAnyH_ready (rs := [4]) (by kernel_rfl) (by simp) ?_
              refine AllReadyH.cons rfl (fun K hK => ?_) AllReadyH.nil
              go_simp
              go_at_call 16
              refine (CE.out).mono ?_
              rintro e V3 ⟨rfl, bv3'⟩
              have bv3 : Below W8.heap.size W8 V3 := bv2.trans (bv3'.mono bv2.size)
              try go_wp2_with fail
              refine hK.out _ _ ⟨cell_later bv3 HC8.out.1, cell_later bv3 HC8.out.2.1, cell_later bv3 HC8.out.2.2.1, cell_later bv3 HC8.out.2.2.2⟩ (fun hHeld => ?_)
              clear hK K
              try simp only [Act.put, List.setIfInBounds_toArray, List.set_cons_zero, List.set_cons_succ]
              refine takeD (i := 5) (d := some 16) (v := ?_) _ rfl rfl (by kernel_rfl) (by kernel_rfl) (by kernel_rfl) (fun _ _ _ h => h) (by rfl) ?_ (by assumption) ?_
              rotate_left
              · (intro w hSw; (try dsimp only at hSw); go_simp) <;> with_reducible rfl
              try simp only [Act.put, List.setIfInBounds_toArray, List.set_cons_zero, List.set_cons_succ]
              refine wpAnyH_done (by kernel_rfl) ?_ _
              have HBV3 := Lib.hid bv3
              clear hHeld bv1 bv1' bv2 bv2' bv3 bv3' hw1 hw1' hw2 CE
              go_wp2_with fail
              refine wp_region_held_drew (S := (fun w' => w'.cell? ⟨b8, 0, none⟩ = some (.slice A2 n1 c2) ∧ w'.cell? ⟨b8, 1, none⟩ = some (.slice Ak mk ck) ∧ w'.cell? ⟨b14, 0, none⟩ = some (.slice A2 n1 c2) ∧ w'.cell? ⟨b14, 1, none⟩ = some (.slice A5 m5 c5))) (by kernel_rfl) ?_ (fun hHeld => ?_)
              · exact ⟨cell_later (HBV3.out.trans ((below_drewN (Below.refl _ _) 1).mono HBV3.out.size)) HC8.out.1, cell_later (HBV3.out.trans ((below_drewN (Below.refl _ _) 1).mono HBV3.out.size)) HC8.out.2.1, cell_later (HBV3.out.trans ((below_drewN (Below.refl _ _) 1).mono HBV3.out.size)) HC8.out.2.2.1, cell_later (HBV3.out.trans ((below_drewN (Below.refl _ _) 1).mono HBV3.out.size)) HC8.out.2.2.2⟩
              refine takeD (i := 0) (d := some 110) (v := ?_) _ rfl rfl (by kernel_rfl) (by kernel_rfl) (by kernel_rfl) (fun _ _ _ h => h) (by rfl) ?_ (by assumption) ?_
              rotate_left
              · (intro w hSw; (try dsimp only at hSw); go_simp) <;> with_reducible rfl
              try simp only [Act.put, List.setIfInBounds_toArray, List.set_cons_zero, List.set_cons_succ]
              refine takeD (i := 2) (d := some 112) (v := ?_) _ rfl rfl (by kernel_rfl) (by kernel_rfl) (by kernel_rfl) (fun _ _ _ h => h) (by rfl) ?_ (by assumption) ?_
              rotate_left
              · (intro w hSw; (try dsimp only at hSw); go_simp) <;> with_reducible rfl
              try simp only [Act.put, List.setIfInBounds_toArray, List.set_cons_zero, List.set_cons_succ]
              refine wpAnyH_ready (rs := [1]) (by kernel_rfl) (by simp) ?_
              refine AllReadyH.cons rfl (fun K hK => ?_) AllReadyH.nil
              go_simp
              go_at_call 17
              refine (CW1.out _ (HBV3.out.trans ((below_drewN (Below.refl _ _) 1).mono HBV3.out.size))).mono ?_
              rintro e V4 ⟨⟨kk, cc, rfl, hw1⟩, bv4'⟩
              have bv4 : Below W8.heap.size W8 V4 := (HBV3.out.trans ((below_drewN (Below.refl _ _) 1).mono HBV3.out.size)).trans (bv4'.mono (Nat.le_trans HBV3.out.size (below_drewN (Below.refl V3.heap.size V3) 1).size))
              try go_wp2_with fail
              refine hK.out _ _ ⟨cell_later bv4 HC8.out.1, cell_later bv4 HC8.out.2.1, cell_later bv4 HC8.out.2.2.1, cell_later bv4 HC8.out.2.2.2⟩ (fun hHeld => ?_)
              clear hK K
              try simp only [Act.put, List.setIfInBounds_toArray, List.set_cons_zero, List.set_cons_succ]
              refine wpAnyH_ready (rs := [3]) (by kernel_rfl) (by simp) ?_
              refine AllReadyH.cons rfl (fun K hK => ?_) AllReadyH.nil
              go_simp
              go_at_call 18
              refine (CR1.out _ bv4).mono ?_
              rintro e V5 ⟨⟨rr, rfl, hw2⟩, bv5'⟩
              obtain ⟨Ar3, cr3, rfl⟩ := slice_form hw2
              have bv5 : Below W8.heap.size W8 V5 := bv4.trans (bv5'.mono bv4.size)
              have hw1' := own_below hw1 bv5'
              have CE := Lib.hid (rsame_self V5.heap.size V5.heap.size _ _ F1 V5 (St.of_own' hw1' (fun q hq => by have := (hw1'.lt q hq).2; omega)) (St.of_own' hw2 (fun q hq => by have := (hw2.lt q hq).2; omega)) HFL1'.out)
              try go_wp2_with fail
              refine hK.out _ _ ⟨cell_later bv5 HC8.out.1, cell_later bv5 HC8.out.2.1, cell_later bv5 HC8.out.2.2.1, cell_later bv5 HC8.out.2.2.2⟩ (fun hHeld => ?_)
              clear hK K
              try simp only [Act.put, List.setIfInBounds_toArray, List.set_cons_zero, List.set_cons_succ]
              refine wpAnyH_ready (rs := [4]) (by kernel_rfl) (by simp) ?_
              refine AllReadyH.cons rfl (fun K hK => ?_) AllReadyH.nil
              go_simp
              go_at_call 16
              refine (CE.out).mono ?_
              rintro e V6 ⟨rfl, bv6'⟩
              have bv6 : Below W8.heap.size W8 V6 := bv5.trans (bv6'.mono bv5.size)
              try go_wp2_with fail
              refine hK.out _ _ ⟨cell_later bv6 HC8.out.1, cell_later bv6 HC8.out.2.1, cell_later bv6 HC8.out.2.2.1, cell_later bv6 HC8.out.2.2.2⟩ (fun hHeld => ?_)
              clear hK K
              try simp only [Act.put, List.setIfInBounds_toArray, List.set_cons_zero, List.set_cons_succ]
              clear CE hw1 hw1' hw2
              refine takeD (i := 5) (d := some 115) (v := ?_) _ rfl rfl (by kernel_rfl) (by kernel_rfl) (by kernel_rfl) (fun _ _ _ h => h) (by rfl) ?_ (by assumption) ?_
              rotate_left
              · (intro w hSw; (try dsimp only at hSw); go_simp) <;> with_reducible rfl
              try simp only [Act.put, List.setIfInBounds_toArray, List.set_cons_zero, List.set_cons_succ]
              refine takeD (i := 6) (d := some 116) (v := ?_) _ rfl rfl (by kernel_rfl) (by kernel_rfl) (by kernel_rfl) (fun _ _ _ h => h) (by rfl) ?_ (by assumption) ?_
              rotate_left
              · (intro w hSw; (try dsimp only at hSw); go_simp) <;> with_reducible rfl
              try simp only [Act.put, List.setIfInBounds_toArray, List.set_cons_zero, List.set_cons_succ]
              refine takeD (i := 7) (d := some 117) (v := ?_) _ rfl rfl (by kernel_rfl) (by kernel_rfl) (by kernel_rfl) (fun _ _ _ h => h) (by rfl) ?_ (by assumption) ?_
              rotate_left
              · (intro w hSw; (try dsimp only at hSw); go_simp) <;> with_reducible rfl
              try simp only [Act.put, List.setIfInBounds_toArray, List.set_cons_zero, List.set_cons_succ]
              refine takeD (i := 8) (d := some 118) (v := ?_) _ rfl rfl (by kernel_rfl) (by kernel_rfl) (by kernel_rfl) (fun _ _ _ h => h) (by rfl) ?_ (by assumption) ?_
              rotate_left
              · (intro w hSw; (try dsimp only at hSw); go_simp) <;> with_reducible rfl
              try simp only [Act.put, List.setIfInBounds_toArray, List.set_cons_zero, List.set_cons_succ]
              refine takeD (i := 10) (d := some 120) (v := ?_) _ rfl rfl (by kernel_rfl) (by kernel_rfl) (by kernel_rfl) (fun _ _ _ h => h) (by rfl) ?_ (by assumption) ?_
              rotate_left
              · (intro w hSw; (try dsimp only at hSw); go_simp) <;> with_reducible rfl
              try simp only [Act.put, List.setIfInBounds_toArray, List.set_cons_zero, List.set_cons_succ]
              refine wpAnyH_ready (rs := [9]) (by kernel_rfl) (by simp) ?_
              refine AllReadyH.cons rfl (fun K hK => ?_) AllReadyH.nil
              go_simp
              go_at_call 25
              refine (CS12.out _ bv6).mono ?_
              rintro e V7 ⟨rfl, bv7'⟩
              have bv7 : Below W8.heap.size W8 V7 := bv6.trans (bv7'.mono bv6.size)
              try go_wp2_with fail
              refine hK.out _ _ ⟨cell_later bv7 HC8.out.1, cell_later bv7 HC8.out.2.1, cell_later bv7 HC8.out.2.2.1, cell_later bv7 HC8.out.2.2.2⟩ (fun hHeld => ?_)
              clear hK K
              try simp only [Act.put, List.setIfInBounds_toArray, List.set_cons_zero, List.set_cons_succ]
              refine takeD (i := 11) (d := some 121) (v := ?_) _ rfl rfl (by kernel_rfl) (by kernel_rfl) (by kernel_rfl) (fun _ _ _ h => h) (by rfl) ?_ (by assumption) ?_
              rotate_left
              · (intro w hSw; (try dsimp only at hSw); go_simp) <;> with_reducible rfl
              try simp only [Act.put, List.setIfInBounds_toArray, List.set_cons_zero, List.set_cons_succ]
              refine takeD (i := 12) (d := some 122) (v := ?_) _ rfl rfl (by kernel_rfl) (by kernel_rfl) (by kernel_rfl) (fun _ _ _ h => h) (by rfl) ?_ (by assumption) ?_
              rotate_left
              · (intro w hSw; (try dsimp only at hSw); go_simp) <;> with_reducible rfl
              try simp only [Act.put, List.setIfInBounds_toArray, List.set_cons_zero, List.set_cons_succ]
              refine takeD (i := 13) (d := some 123) (v := ?_) _ rfl rfl (by kernel_rfl) (by kernel_rfl) (by kernel_rfl) (fun _ _ _ h => h) (by rfl) ?_ (by assumption) ?_
              rotate_left
              · (intro w hSw; (try dsimp only at hSw); go_simp) <;> with_reducible rfl
              try simp only [Act.put, List.setIfInBounds_toArray, List.set_cons_zero, List.set_cons_succ]
              refine takeD (i := 14) (d := some 124) (v := ?_) _ rfl rfl (by kernel_rfl) (by kernel_rfl) (by kernel_rfl) (fun _ _ _ h => h) (by rfl) ?_ (by assumption) ?_
              rotate_left
              · (intro w hSw; (try dsimp only at hSw); go_simp) <;> with_reducible rfl
              try simp only [Act.put, List.setIfInBounds_toArray, List.set_cons_zero, List.set_cons_succ]
              refine takeD (i := 15) (d := some 125) (v := ?_) _ rfl rfl (by kernel_rfl) (by kernel_rfl) (by kernel_rfl) (fun _ _ _ h => h) (by rfl) ?_ (by assumption) ?_
              rotate_left
              · (intro w hSw; (try dsimp only at hSw); go_simp) <;> with_reducible rfl
              try simp only [Act.put, List.setIfInBounds_toArray, List.set_cons_zero, List.set_cons_succ]
              refine takeD (i := 17) (d := some 127) (v := ?_) _ rfl rfl (by kernel_rfl) (by kernel_rfl) (by kernel_rfl) (fun _ _ _ h => h) (by rfl) ?_ (by assumption) ?_
              rotate_left
              · (intro w hSw; (try dsimp only at hSw); go_simp) <;> with_reducible rfl
              try simp only [Act.put, List.setIfInBounds_toArray, List.set_cons_zero, List.set_cons_succ]
              refine wpAnyH_ready (rs := [16]) (by kernel_rfl) (by simp) ?_
              refine AllReadyH.cons rfl (fun K hK => ?_) AllReadyH.nil
              go_simp
              go_at_call 25
              refine (CS21.out _ bv7).mono ?_
              rintro e V8 ⟨rfl, bv8'⟩
              have bv8 : Below W8.heap.size W8 V8 := bv7.trans (bv8'.mono bv7.size)
              try go_wp2_with fail
              refine hK.out _ _ ⟨cell_later bv8 HC8.out.1, cell_later bv8 HC8.out.2.1, cell_later bv8 HC8.out.2.2.1, cell_later bv8 HC8.out.2.2.2⟩ (fun hHeld => ?_)
              clear hK K
              try simp only [Act.put, List.setIfInBounds_toArray, List.set_cons_zero, List.set_cons_succ]
              refine takeD (i := 18) (d := some 128) (v := ?_) _ rfl rfl (by kernel_rfl) (by kernel_rfl) (by kernel_rfl) (fun _ _ _ h => h) (by rfl) ?_ (by assumption) ?_
              rotate_left
              · (intro w hSw; (try dsimp only at hSw); go_simp) <;> with_reducible rfl
              try simp only [Act.put, List.setIfInBounds_toArray, List.set_cons_zero, List.set_cons_succ]
              refine takeD (i := 19) (d := some 129) (v := ?_) _ rfl rfl (by kernel_rfl) (by kernel_rfl) (by kernel_rfl) (fun _ _ _ h => h) (by rfl) ?_ (by assumption) ?_
              rotate_left
              · (intro w hSw; (try dsimp only at hSw); go_simp) <;> with_reducible rfl
              try simp only [Act.put, List.setIfInBounds_toArray, List.set_cons_zero, List.set_cons_succ]
              refine wpAnyH_done (by kernel_rfl) ?_ _
              have HA9 := Lib.hid (HA8.out.below bv8)
              have HB9 := Lib.hid (HB8.out.below bv8)
              have HR29 := Lib.hid (HR28.out.below bv8)
              have HR149 := Lib.hid (HR148.out.below bv8)
              clear hHeld bv4 bv4' bv5 bv5' bv6 bv6' bv7 bv7' bv8 bv8'
              go_wp2_with fail
              go_roundw
              case rel =>
                have Q : Cl2Rel nt lo hi p rb b8 lo2 hi2 p2 rb2 b14 (.slice A2 n1 c2) (.slice Ak mk ck) own LL w wo (.int .i64 ((k : Int) + 1)) V8 := ⟨⟨k + 1, A5, m5, c5, LL', HX1.out, HX.out, by go_num, HA9.out, HB9.out, HR29.out, HR149.out⟩⟩
                first | exact Q | ((repeat apply Exists.intro); exact ⟨Q, rfl⟩)
              case measure => have := HX1.out; simp [intOf]; omega
          · have hk1 : k = 50 := by have := HK.out; omega
            subst hk1
            clear hlt hl100
            have HFL2 : Hid (LY.flatten.length ≤ 5000) := by have := HBB.out.sh.flat; have := HBB.out.sh.sum; unfold Hid; omega
            have CW2 := Lib.hid fun (W : World) (hb : Below wr.heap.size wr W) => words_any lo2 hi2 p2 rb2 own LY.flatten W (HBB.out.sp.below hb) HFL2.out
            have CR2 := Lib.hid fun (W : World) (hb : Below wr.heap.size wr W) => rwords_any rb2 (.slice A2 n1 c2) (.slice Ay my cy) own LY W (HBB.out.rs.below hb) (by rw [HBB.out.sh.len]; exact HBB.out.sh.few) HFL2.out
            obtain ⟨F2, hF2⟩ : ∃ F2, LY.flatten = F2 := ⟨_, rfl⟩
            rw [hF2] at CW2 CR2 HFL2
            have HT22 : Hid (decide (F2 = F2) = true) := by unfold Hid; simp
            have HC14 : Hid (wr.cell? ⟨b14, 0, none⟩ = some (.slice A2 n1 c2) ∧ wr.cell? ⟨b14, 1, none⟩ = some (.slice Ay my cy)) := ⟨HBB.out.cells.1, HBB.out.cells.2.1⟩
            clear hF2
            go_wp2_with fail
            refine wp_region_held_drew (S := (fun w' => w'.cell? ⟨b14, 0, none⟩ = some (.slice A2 n1 c2) ∧ w'.cell? ⟨b14, 1, none⟩ = some (.slice Ay my cy))) (by kernel_rfl) ?_ (fun hHeld => ?_)
            · exact HC14.out
            refine takeD (i := 0) (d := some 130) (v := ?_) _ rfl rfl (by kernel_rfl) (by kernel_rfl) (by kernel_rfl) (fun _ _ _ h => h) (by rfl) ?_ (by assumption) ?_
            rotate_left
            · (intro w hSw; (try dsimp only at hSw); go_simp) <;> with_reducible rfl
            try simp only [Act.put, List.setIfInBounds_toArray, List.set_cons_zero, List.set_cons_succ]
            refine takeD (i := 2) (d := some 132) (v := ?_) _ rfl rfl (by kernel_rfl) (by kernel_rfl) (by kernel_rfl) (fun _ _ _ h => h) (by rfl) ?_ (by assumption) ?_
            rotate_left
            · (intro w hSw; (try dsimp only at hSw); go_simp) <;> with_reducible rfl
            try simp only [Act.put, List.setIfInBounds_toArray, List.set_cons_zero, List.set_cons_succ]
            refine wpAnyH_ready (rs := [1]) (by kernel_rfl) (by simp) ?_
            refine AllReadyH.cons rfl (fun K hK => ?_) AllReadyH.nil
            go_simp
            go_at_call 17
            refine (CW2.out _ (below_drewN (Below.refl _ _) 1)).mono ?_
            rintro e V4 ⟨⟨kk, cc, rfl, hw1⟩, bv4'⟩
            have bv4 : Below wr.heap.size wr V4 := (below_drewN (Below.refl _ _) 1).trans bv4'
            try go_wp2_with fail
            refine hK.out _ _ ⟨cell_later bv4 HC14.out.1, cell_later bv4 HC14.out.2⟩ (fun hHeld => ?_)
            clear hK K
            try simp only [Act.put, List.setIfInBounds_toArray, List.set_cons_zero, List.set_cons_succ]
            refine wpAnyH_ready (rs := [3]) (by kernel_rfl) (by simp) ?_
            refine AllReadyH.cons rfl (fun K hK => ?_) AllReadyH.nil
            go_simp
            go_at_call 18
            refine (CR2.out _ bv4).mono ?_
            rintro e V5 ⟨⟨rr, rfl, hw2⟩, bv5'⟩
            obtain ⟨Ar3, cr3, rfl⟩ := slice_form hw2
            have bv5 : Below wr.heap.size wr V5 := bv4.trans (bv5'.mono bv4.size)
            have hw1' := own_below hw1 bv5'
            have CE := Lib.hid (rsame_self V5.heap.size V5.heap.size _ _ F2 V5 (St.of_own' hw1' (fun q hq => by have := (hw1'.lt q hq).2; omega)) (St.of_own' hw2 (fun q hq => by have := (hw2.lt q hq).2; omega)) HFL2.out)
            try go_wp2_with fail
            refine hK.out _ _ ⟨cell_later bv5 HC14.out.1, cell_later bv5 HC14.out.2⟩ (fun hHeld => ?_)
            clear hK K
            try simp only [Act.put, List.setIfInBounds_toArray, List.set_cons_zero, List.set_cons_succ]
            refine wpAnyH_ready (rs := [4]) (by kernel_rfl) (by simp) ?_
            refine AllReadyH.cons rfl (fun K hK => ?_) AllReadyH.nil
            go_simp
            go_at_call 16
            refine (CE.out).mono ?_
            rintro e V6 ⟨rfl, bv6'⟩
            have bv6 : Below wr.heap.size wr V6 := bv5.trans (bv6'.mono bv5.size)
            try go_wp2_with fail
            refine hK.out _ _ ⟨cell_later bv6 HC14.out.1, cell_later bv6 HC14.out.2⟩ (fun hHeld => ?_)
            clear hK K
            try simp only [Act.put, List.setIfInBounds_toArray, List.set_cons_zero, List.set_cons_succ]
            refine takeD (i := 5) (d := some 6) (v := ?_) _ rfl rfl (by kernel_rfl) (by kernel_rfl) (by kernel_rfl) (fun _ _ _ h => h) (by rfl) ?_ (by assumption) ?_
            rotate_left
            · (intro w hSw; (try dsimp only at hSw); go_simp) <;> with_reducible rfl
            try simp only [Act.put, List.setIfInBounds_toArray, List.set_cons_zero, List.set_cons_succ]
            refine wpAnyH_done (by kernel_rfl) ?_ _
            have HBZ : Hid (Below w.heap.size w V6) := HBA.out.bel.trans (bv6.mono HBA.out.bel.size)
            clear hHeld bv4 bv4' bv5 bv5' bv6 bv6' hw1 hw1' hw2 CE
            go_wp2_with fail
            go_ret
            exact ⟨rfl, HBZ.out⟩
        · have hkIc : ¬ ((k : Int) < (nt : Int)) := by omega
          clear hlt
          have HFL2 : Hid (LY.flatten.length ≤ 5000) := by have := HBB.out.sh.flat; have := HBB.out.sh.sum; unfold Hid; omega
          have CW2 := Lib.hid fun (W : World) (hb : Below wr.heap.size wr W) => words_any lo2 hi2 p2 rb2 own LY.flatten W (HBB.out.sp.below hb) HFL2.out
          have CR2 := Lib.hid fun (W : World) (hb : Below wr.heap.size wr W) => rwords_any rb2 (.slice A2 n1 c2) (.slice Ay my cy) own LY W (HBB.out.rs.below hb) (by rw [HBB.out.sh.len]; exact HBB.out.sh.few) HFL2.out
          obtain ⟨F2, hF2⟩ : ∃ F2, LY.flatten = F2 := ⟨_, rfl⟩
          rw [hF2] at CW2 CR2 HFL2
          have HT22 : Hid (decide (F2 = F2) = true) := by unfold Hid; simp
          have HC14 : Hid (wr.cell? ⟨b14, 0, none⟩ = some (.slice A2 n1 c2) ∧ wr.cell? ⟨b14, 1, none⟩ = some (.slice Ay my cy)) := ⟨HBB.out.cells.1, HBB.out.cells.2.1⟩
          clear hF2
          go_wp2_with fail
          refine wp_region_held_drew (S := (fun w' => w'.cell? ⟨b14, 0, none⟩ = some (.slice A2 n1 c2) ∧ w'.cell? ⟨b14, 1, none⟩ = some (.slice Ay my cy))) (by kernel_rfl) ?_ (fun hHeld => ?_)
          · exact HC14.out
          refine takeD (i := 0) (d := some 130) (v := ?_) _ rfl rfl (by kernel_rfl) (by kernel_rfl) (by kernel_rfl) (fun _ _ _ h => h) (by rfl) ?_ (by assumption) ?_
          rotate_left
          · (intro w hSw; (try dsimp only at hSw); go_simp) <;> with_reducible rfl
          try simp only [Act.put, List.setIfInBounds_toArray, List.set_cons_zero, List.set_cons_succ]
          refine takeD (i := 2) (d := some 132) (v := ?_) _ rfl rfl (by kernel_rfl) (by kernel_rfl) (by kernel_rfl) (fun _ _ _ h => h) (by rfl) ?_ (by assumption) ?_
          rotate_left
          · (intro w hSw; (try dsimp only at hSw); go_simp) <;> with_reducible rfl
          try simp only [Act.put, List.setIfInBounds_toArray, List.set_cons_zero, List.set_cons_succ]
          refine wpAnyH_ready (rs := [1]) (by kernel_rfl) (by simp) ?_
          refine AllReadyH.cons rfl (fun K hK => ?_) AllReadyH.nil
          go_simp
          go_at_call 17
          refine (CW2.out _ (below_drewN (Below.refl _ _) 1)).mono ?_
          rintro e V4 ⟨⟨kk, cc, rfl, hw1⟩, bv4'⟩
          have bv4 : Below wr.heap.size wr V4 := (below_drewN (Below.refl _ _) 1).trans bv4'
          try go_wp2_with fail
          refine hK.out _ _ ⟨cell_later bv4 HC14.out.1, cell_later bv4 HC14.out.2⟩ (fun hHeld => ?_)
          clear hK K
          try simp only [Act.put, List.setIfInBounds_toArray, List.set_cons_zero, List.set_cons_succ]
          refine wpAnyH_ready (rs := [3]) (by kernel_rfl) (by simp) ?_
          refine AllReadyH.cons rfl (fun K hK => ?_) AllReadyH.nil
          go_simp
          go_at_call 18
          refine (CR2.out _ bv4).mono ?_
          rintro e V5 ⟨⟨rr, rfl, hw2⟩, bv5'⟩
          obtain ⟨Ar3, cr3, rfl⟩ := slice_form hw2
          have bv5 : Below wr.heap.size wr V5 := bv4.trans (bv5'.mono bv4.size)
          have hw1' := own_below hw1 bv5'
          have CE := Lib.hid (rsame_self V5.heap.size V5.heap.size _ _ F2 V5 (St.of_own' hw1' (fun q hq => by have := (hw1'.lt q hq).2; omega)) (St.of_own' hw2 (fun q hq => by have := (hw2.lt q hq).2; omega)) HFL2.out)
          try go_wp2_with fail
          refine hK.out _ _ ⟨cell_later bv5 HC14.out.1, cell_later bv5 HC14.out.2⟩ (fun hHeld => ?_)
          clear hK K
          try simp only [Act.put, List.setIfInBounds_toArray, List.set_cons_zero, List.set_cons_succ]
          refine wpAnyH_ready (rs := [4]) (by kernel_rfl) (by simp) ?_
          refine AllReadyH.cons rfl (fun K hK => ?_) AllReadyH.nil
          go_simp
          go_at_call 16
          refine (CE.out).mono ?_
          rintro e V6 ⟨rfl, bv6'⟩
          have bv6 : Below wr.heap.size wr V6 := bv5.trans (bv6'.mono bv5.size)
          try go_wp2_with fail
          refine hK.out _ _ ⟨cell_later bv6 HC14.out.1, cell_later bv6 HC14.out.2⟩ (fun hHeld => ?_)
          clear hK K
          try simp only [Act.put, List.setIfInBounds_toArray, List.set_cons_zero, List.set_cons_succ]
          refine takeD (i := 5) (d := some 6) (v := ?_) _ rfl rfl (by kernel_rfl) (by kernel_rfl) (by kernel_rfl) (fun _ _ _ h => h) (by rfl) ?_ (by assumption) ?_
          rotate_left
          · (intro w hSw; (try dsimp only at hSw); go_simp) <;> with_reducible rfl
          try simp only [Act.put, List.setIfInBounds_toArray, List.set_cons_zero, List.set_cons_succ]
          refine wpAnyH_done (by kernel_rfl) ?_ _
          have HBZ : Hid (Below w.heap.size w V6) := HBA.out.bel.trans (bv6.mono HBA.out.bel.size)
          clear hHeld bv4 bv4' bv5 bv5' bv6 bv6' hw1 hw1' hw2 CE
          go_wp2_with fail
          go_ret
          exact ⟨rfl, HBZ.out⟩
end Go.Proofs.Ytliggejkpmlgfaa
