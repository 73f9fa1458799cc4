/-
  The contract of Fill. Each statement bears its own conditions.
-/
import Derived.Test.YtliggejkpmlgfaaSpH
namespace Go.Proofs.Ytliggejkpmlgfaa
open Go.RowKit
set_option linter.unusedVariables false
set_option linter.unusedSimpArgs false
/-- Words, put one behind the other, if all places are there. -/
def fillGo (l : List MA) : Int → List Int → List (List Int) → Option (List (List Int))
  | _, [], LL => some LL
  | at_, y :: r, LL => match atL at_ l 0 with
    | none => none
    | some (i, k) => fillGo l (at_ + 1) r (putL LL i k y)
def flV (at_ : Int) (l : List MA) (ns : List Int) (LL : List (List Int)) : List (List Int) × Int := match fillGo l at_ ns LL with
  | none => (LL, 2)
  | some M => (M, 0)
theorem fillGo_none {l : List MA} : ∀ {ns : List Int} {at_ : Int} {LL : List (List Int)} {m : Nat}, m < ns.length → atL (at_ + m) l 0 = none → fillGo l at_ ns LL = none
  | [], _, _, m, h, _ => by simp at h
  | y :: r, at_, LL, m, h, hq => by
    unfold fillGo
    cases m with
    | zero => simp at hq; rw [hq]
    | succ m =>
      rcases hz : atL at_ l 0 with _ | ⟨i, k⟩
      · rfl
      · dsimp only
        exact fillGo_none (m := m) (by simpa using h) (by rw [← hq]; congr 1; omega)
theorem fillGo_sh {l : List MA} : ∀ {ns : List Int} {at_ : Int} {LL M : List (List Int)}, Sh l LL → (∀ x ∈ ns, U32 x) → fillGo l at_ ns LL = some M → Sh l M
  | [], _, LL, M, h, _, hq => by
    unfold fillGo at hq
    injection hq with hq
    subst hq; exact h
  | y :: r, at_, LL, M, h, hu, hq => by
    unfold fillGo at hq
    rcases hz : atL at_ l 0 with _ | ⟨i, k⟩
    · rw [hz] at hq; cases hq
    · rw [hz] at hq
      exact fillGo_sh (h.put i k (hu y (by simp))) (fun x hx => hu x (by simp [hx])) hq
theorem fillGo_step {l : List MA} {at_ : Int} {ns : List Int} {LL : List (List Int)} {m : Nat} {y : Int} {i k : Nat} (hy : ns[m]? = some y) (hq : atL (at_ + m) l 0 = some (i, k)) :
    fillGo l (at_ + m) (ns.drop m) LL = fillGo l (at_ + (m + 1 : Nat)) (ns.drop (m + 1)) (putL LL i k y) := by
  rw [drop_cons hy]
  conv => lhs; unfold fillGo
  rw [hq]
  dsimp only
  congr 1
  omega
structure F1Rel (at_ : Int) (lo hi p rb n : Nat) (l : List MA) (w : World) (v7 v : Value) (wr : World) : Prop where
  ex : ∃ (k : Nat) (A : Option Addr) (c : Nat) (T : List Int), k ≤ n ∧ v = .int .i64 (k : Int) ∧ v7 = .slice A k c ∧ wr.ownsRow w.heap.size 3 1 (.slice A k c) k (C T) ∧ T.length = k ∧ (∀ m, m < k → ∃ q, atL (at_ + m) l 0 = some q ∧ T[m]? = some (fdI (at_ + m) l)) ∧ Below w.heap.size w wr
structure F2Rel (at_ : Int) (lo hi p rb n : Nat) (l : List MA) (ns : List Int) (LL : List (List Int)) (A : Option Addr) (c : Nat) (T : List Int) (w : World) (v : Value) (wr : World) : Prop where
  ex : ∃ (k : Nat) (M : List (List Int)), k ≤ n ∧ v = .int .i64 (k : Int) ∧ fillGo l at_ ns LL = fillGo l (at_ + k) (ns.drop k) M ∧ Sh l M ∧ SP lo hi wr p rb l M.flatten ∧ Past rb w wr ∧ wr.ownsRow w.heap.size 3 1 (.slice A n c) n (C T)
theorem int_info : (Try.prog.info? 3).map (fun i => (i.zero, i.size, i.bytes)) = some (some (.int .i64 0), 1, 8) := by kernel_rfl
set_option maxRecDepth 100000 in
set_option maxHeartbeats 8000000 in
theorem fill_any (lo hi p rb : Nat) (l : List MA) (LL : List (List Int)) (ns : List Int) (v : Value) (at_ : Int) (w : World) (h : SP lo hi w p rb l LL.flatten) (hs : Sh l LL) (hv : St rb w 1 v ns.length (CU ns)) (hu : ∀ x ∈ ns, U32 x) (hn : ns.length ≤ 64) (ha : U32 at_) :
    Calls Try.prog 23 #[.pointer (some ⟨p, 0, none⟩), .int .u32 at_, v] w fun e w' => e = .returned (.int .i64 (flV at_ l ns LL).2) ∧ SP lo hi w' p rb l (flV at_ l ns LL).1.flatten ∧ Past rb w w' := by
  obtain ⟨i0, hinf, hz0, hz1, hz2⟩ := info_of int_info
  obtain ⟨a, cap0, rfl⟩ := hv.form
  obtain ⟨n, hnn⟩ : ∃ n, ns.length = n := ⟨_, rfl⟩
  rw [hnn] at hv hn ⊢
  have HNN := Lib.hid hnn
  have HV := Lib.hid hv
  have HU := Lib.hid hu
  have HS := Lib.hid hs
  have HSP := Lib.hid h
  have HAT := Lib.hid ha
  have HPN := Lib.hid h.ne
  have HRB : Hid (rb < w.heap.size) := by have := h.hr.2; have := h.hs; unfold Hid; omega
  obtain ⟨R, hR⟩ : ∃ R, flV at_ l ns LL = R := ⟨_, rfl⟩
  rw [hR]
  have HR := Lib.hid hR
  have CF := Lib.hid fun (k : Nat) (hk : k < 64) (W : World) (hb : Below w.heap.size w W) => find_any lo hi p rb l LL.flatten (at_ + k) W (h.below hb) hs.good hs.few ⟨by have := ha.1; omega, by have := ha.2; omega⟩
  have hwa : IntKind.i64.wrap at_ = at_ := wrap_ok (by have := ha.1; omega) (by have := ha.2; omega)
  clear hnn hv hu hs h ha hR
  have he : ∀ w : World, (binOp .eql 25 (.pointer (some ⟨p, 0, none⟩)) (.pointer none)).run Try.prog w = .ok (.bool false) w := fun _ => rfl
  go_enter Try.func23, Try.ntmps23
  go_wp2_with fail
  go_loopw [7, 17] (fun v7 v wr => F1Rel at_ lo hi p rb n l w v7 v wr) (fun _ v => fun _ => n - (intOf v).toNat)
  case atStart => exact ⟨⟨0, none, 0, [], Nat.zero_le _, rfl, rfl, World.ownsRow_nil _ _ _ _, rfl, fun m hm => by omega, Below.refl _ _⟩⟩
  case round =>
    obtain ⟨⟨k, A, c, T, hk, rfl, rfl, hown, htl, hall, hb⟩⟩ := hrel
    have HK := Lib.hid hk
    have HO := Lib.hid hown
    have HTL := Lib.hid htl
    have HALL := Lib.hid hall
    have HB := Lib.hid hb
    clear hk hown htl hall hb
    by_cases hlt : k < n
    · have hkI : (k : Int) < (n : Int) := by omega
      have HX : Hid (k < n) := hlt
      have CK := Lib.hid (CF.out k (by omega))
      have hwk : IntKind.i64.wrap (at_ + (k : Int)) = at_ + (k : Int) := wrap_ok (by have := HAT.out.1; omega) (by have := HAT.out.2; omega)
      obtain ⟨ri, hri⟩ : ∃ ri, fdI (at_ + k) l = ri := ⟨_, rfl⟩
      obtain ⟨⟨f0, f1, f2, f3, f4⟩, hra⟩ : ∃ ra, fdA (at_ + k) l = ra := ⟨_, rfl⟩
      rw [hri, hra] at CK
      unfold MA.val at CK
      dsimp only at CK
      have HRI := Lib.hid hri
      clear hri hra hlt
      rcases hq : atL (at_ + k) l 0 with _ | ⟨i, kk⟩
      · have hi1 : ri = -1 := by rw [← HRI.out]; unfold fdI; rw [hq]
        subst hi1
        have HF : Hid (R = (LL, 2)) := by
          unfold Hid
          rw [← HR.out]; unfold flV
          rw [fillGo_none (by rw [HNN.out]; exact HX.out) hq]
        clear hq
        go_wp2_with fail
        refine (CK.out _ HB.out).mono ?_
        rintro e W1 ⟨rfl, b1⟩
        go_wp2_with fail
        go_ret
        have hbz : Below w.heap.size w (W1.alloc (.cells #[.int .i64 f0, .int .i64 f1, .bool f2, .bool f3, .bool f4] 57)) := (HB.out.trans (b1.mono HB.out.size)).alloc (Nat.le_trans HB.out.size b1.size) _
        exact ⟨by rw [HF.out]; rfl, by rw [HF.out]; exact HSP.out.below hbz, Past.of_below hbz⟩
      · obtain ⟨j, x, u, e1, e2, e3, e4, e5, e6, e7⟩ := HS.out.fd hq
        have hrj : ri = (j : Int) := HRI.out.symm.trans e1
        subst hrj
        have hju : (0 : Int) ≤ (j : Int) := by omega
        have HQ := Lib.hid hq
        clear e1 e2 e3 e4 e5 e6 e7 hq
        go_wp2_with fail
        refine (CK.out _ HB.out).mono ?_
        rintro e W1 ⟨rfl, b1⟩
        have HB1 : Hid (Below w.heap.size w (W1.alloc (.cells #[.int .i64 f0, .int .i64 f1, .bool f2, .bool f3, .bool f4] 57))) := (HB.out.trans (b1.mono HB.out.size)).alloc (Nat.le_trans HB.out.size b1.size) _
        have HO1 : Hid ((W1.alloc (.cells #[.int .i64 f0, .int .i64 f1, .bool f2, .bool f3, .bool f4] 57)).ownsRow w.heap.size 3 1 (.slice A k c) k (C T)) := own_below (own_below HO.out b1) ((Below.refl _ _).alloc (Nat.le_refl _) _)
        have HS1 := Lib.hid HB1.out.size
        clear b1 CK
        go_wp2_with (at_builtin; refine wpList_append_own _ rfl _ _ 77 rfl w.heap.size 3 i0 (.int .i64 0) 1 8 Try.underlying77 hinf hz0 hz1 hz2 rfl (by decide) _ _ _ rfl (own_below HO1.out ((Below.refl _ _).alloc (Nat.le_refl _) _)) ⟨W1.heap.size + 1, 0, none⟩ 1 1 [.int .i64 (j : Int)] rfl rfl ?c1 ?c2 ?c3 ?c4 ?c5 ?_)
        try (case c1 => (intro j u hu; match j, hu with
          | 0, hu => simp at hu; subst hu; rw [Addr.add_lit]; simp
          | j + 1, hu => simp at hu))
        try (case c2 => first | exact ⟨rfl, trivial⟩ | rfl | (intro u hu; simp at hu; subst hu; rfl))
        try (case c3 => have h1 := HX.out; unfold maxLen; omega)
        try (case c4 => have h1 := HX.out; omega)
        try (case c5 => have := HS1.out; simp at *; omega)
        intro v' w2 hown hgrow _
        obtain ⟨A', c', rfl⟩ := slice_form hown
        have HO2 : Hid (w2.ownsRow w.heap.size 3 1 (.slice A' (k + 1) c') (k + 1) (C (T ++ [(j : Int)]))) := by
          unfold Hid; rw [C_app]; exact hown
        have HB2 : Hid (Below w.heap.size w w2) := by
          have h1 : Below w.heap.size w ((W1.alloc (.cells #[.int .i64 f0, .int .i64 f1, .bool f2, .bool f3, .bool f4] 57)).alloc (.cells #[.int .i64 (j : Int)] 3)) := HB1.out.alloc HB1.out.size _
          exact h1.grown hgrow (by have := HS1.out; simp at *; omega) (fun k hk => (HO1.out.lt k hk).1)
        clear hown hgrow
        go_wp2_with fail
        go_roundw
        case rel =>
          have Q : F1Rel at_ lo hi p rb n l w (.slice A' (k + 1) c') (.int .i64 ((k : Int) + 1)) w2 := ⟨⟨k + 1, A', c', T ++ [(j : Int)], HX.out, by go_num, rfl, HO2.out, by rw [List.length_append, HTL.out]; rfl, fun m hm => by
            by_cases hmk : m < k
            · obtain ⟨q, q1, q2⟩ := HALL.out m hmk
              exact ⟨q, q1, by rw [List.getElem?_append_left (by rw [HTL.out]; exact hmk)]; exact q2⟩
            · have : m = k := by omega
              subst this
              exact ⟨_, HQ.out, by rw [List.getElem?_append_right (by rw [HTL.out]; omega), HTL.out, HRI.out]; simp⟩, HB2.out⟩⟩
          first | exact Q | ((repeat apply Exists.intro); exact ⟨Q, rfl⟩)
        case measure => have := HX.out; simp [intOf]; omega
    · have hkn : k = n := by have := HK.out; omega
      subst hkn
      clear hlt
      go_wp2_with fail
      obtain ⟨wo, hwo⟩ : ∃ wo, wo = wr := ⟨_, rfl⟩
      subst hwo
      go_loopw [38] (fun v wr => F2Rel at_ lo hi p rb k l ns LL A c T w v wr) (fun v => fun _ => k - (intOf v).toNat)
      case atStart => exact ⟨⟨0, LL, Nat.zero_le _, rfl, by simp, HS.out, HSP.out.below HB.out, Past.of_below HB.out, HO.out⟩⟩
      case round =>
        clear HB HO HS HSP
        obtain ⟨⟨m, M, hm, rfl, hgo, hsh, hsp, hb, hown⟩⟩ := hrel
        have HM := Lib.hid hm
        have HGO := Lib.hid hgo
        have HSH := Lib.hid hsh
        have HQ := Lib.hid hsp
        have HB := Lib.hid hb
        have HO := Lib.hid hown
        clear hm hgo hsh hsp hb hown
        by_cases hlt : m < k
        · have hkI : (m : Int) < (k : Int) := by omega
          have HX : Hid (m < k) := hlt
          obtain ⟨⟨i, kk⟩, q1, q2⟩ := HALL.out m hlt
          obtain ⟨j, x, u, e1, e2, e3, e4, e5, e6, e7⟩ := HSH.out.fd q1
          rw [e1] at q2
          have hys : ns[m]? = some (ns[m]'(by have := HNN.out; omega)) := List.getElem?_eq_getElem _
          obtain ⟨y, hy⟩ : ∃ y, ns[m]'(by have := HNN.out; omega) = y := ⟨_, rfl⟩
          rw [hy] at hys
          have HUY : Hid (U32 y) := HU.out y (List.mem_of_getElem? hys)
          have HST := Lib.hid (fillGo_step (LL := M) hys q1)
          have HE6 := Lib.hid (e6 y)
          have HMJ := Lib.hid (List.getElem?_eq_some_iff.1 e5).1
          -- the place in the list of places
          obtain ⟨ga, hga, hA⟩ : ∃ ga, A = some ⟨ga, 0, none⟩ ∧ wr.cell? ⟨ga, m, none⟩ = some (.int .i64 (j : Int)) := by
            obtain ⟨g', cap', hv', _, _⟩ := HO.out.form (Nat.lt_of_le_of_lt (Nat.zero_le _) hlt)
            have hA : A = some ⟨g', 0, none⟩ := by injection hv'
            subst hA
            refine ⟨g', rfl, ?_⟩
            have hj' : (C T)[m]? = some (.int .i64 (j : Int)) := by unfold C; rw [List.getElem?_map, q2]; rfl
            have := HO.out.cells (g := g') rfl m _ hj'
            rw [Addr.add_lit] at this
            simpa using this
          subst hga
          obtain ⟨_, b, off, rfl, hbl, hg, hc⟩ := HV.out.at_ hlt
          have dl : wr.cell? ⟨b, off + m, none⟩ = some (.int .u32 y) := cell_past HB.out hbl hg (hc m _ (CU_at hys))
          obtain ⟨cap, c1, c2, c3, c4⟩ := sp_word HQ.out e5
          have hju : (0 : Int) ≤ (j : Int) := by omega
          obtain ⟨z, hz⟩ : ∃ z, M.flatten.length = z := ⟨_, rfl⟩
          have HPS : Hid (SP lo hi (wr.drew.setCell ⟨rb, j, none⟩ (.int .u32 y)) p rb l (putL M i kk y).flatten) := by
            unfold Hid
            rw [HE6.out]
            exact (SP.keep (w' := wr.drew) HQ.out HQ.out.hs (fun _ _ _ => rfl)).set c4
          rw [hz] at c1 c4
          have HG : Hid (b ≠ rb) := hg
          have HNS : Hid (Sh l (putL M i kk y)) := HSH.out.put i kk HUY.out
          have HC1 := Lib.hid c1
          have HDL := Lib.hid dl
          have HA := Lib.hid hA
          have D2 : wr.drew.cell? ⟨rb, j, none⟩ = some (.int .u32 u) := c2
          have D3 : wr.drew.frozen? ⟨rb, j, none⟩ = false := c3
          clear hlt q1 q2 e1 e2 e3 e4 e5 e6 e7 hys hy hbl hg hc dl c1 hz
          go_wp2_with fail
          refine wp_region_held_drew (S := (fun w' => Past rb w w' ∧ w'.cell? ⟨p, 1, none⟩ = some (.slice (some ⟨rb, 0, none⟩) z cap) ∧ w'.cell? ⟨b, off + m, none⟩ = some (.int .u32 y))) (by kernel_rfl) ?_ (fun hHeld => ?_)
          · exact ⟨Past.drewN HB.out 1, HC1.out, HDL.out⟩
          refine takeD (i := 0) (d := some 43) (v := ?_) _ rfl rfl (by kernel_rfl) (by kernel_rfl) (by kernel_rfl) (fun _ _ _ h => h) (by rfl) ?_ (by assumption) ?_
          rotate_left
          · (intro w hSw; (try dsimp only at hSw); go_simp) <;> with_reducible rfl
          try simp only [Act.put, List.setIfInBounds_toArray, List.set_cons_zero, List.set_cons_succ]
          refine takeD (i := 1) (d := some 44) (v := ?_) _ rfl rfl (by kernel_rfl) (by kernel_rfl) (by kernel_rfl) (fun _ _ _ h => h) (by rfl) ?_ (by assumption) ?_
          rotate_left
          · (intro w hSw; (try dsimp only at hSw); go_simp) <;> with_reducible rfl
          try simp only [Act.put, List.setIfInBounds_toArray, List.set_cons_zero, List.set_cons_succ]
          refine takeD (i := 2) (d := some 45) (v := ?_) _ rfl rfl (by kernel_rfl) (by kernel_rfl) (by kernel_rfl) (fun _ _ _ h => h) (by rfl) ?_ (by assumption) ?_
          rotate_left
          · (intro w hSw; (try dsimp only at hSw); go_simp) <;> with_reducible rfl
          try simp only [Act.put, List.setIfInBounds_toArray, List.set_cons_zero, List.set_cons_succ]
          refine takeD (i := 3) (d := some 46) (v := ?_) _ rfl rfl (by kernel_rfl) (by kernel_rfl) (by kernel_rfl) (fun _ _ _ h => h) (by rfl) ?_ (by assumption) ?_
          rotate_left
          · (intro w hSw; (try dsimp only at hSw); go_simp) <;> with_reducible rfl
          try simp only [Act.put, List.setIfInBounds_toArray, List.set_cons_zero, List.set_cons_succ]
          refine takeD (i := 4) (d := some 47) (v := ?_) _ rfl rfl (by kernel_rfl) (by kernel_rfl) (by kernel_rfl) (fun _ _ _ h => h) (by rfl) ?_ (by assumption) ?_
          rotate_left
          · (intro w hSw; (try dsimp only at hSw); go_simp) <;> with_reducible rfl
          try simp only [Act.put, List.setIfInBounds_toArray, List.set_cons_zero, List.set_cons_succ]
          refine takeD (i := 5) (d := some 48) (v := ?_) _ rfl rfl (by kernel_rfl) (by kernel_rfl) (by kernel_rfl) (fun _ _ _ h => h) (by rfl) ?_ (by assumption) ?_
          rotate_left
          · (intro w hSw; (try dsimp only at hSw); go_simp) <;> with_reducible rfl
          try simp only [Act.put, List.setIfInBounds_toArray, List.set_cons_zero, List.set_cons_succ]
          refine takeD (i := 6) (d := some 49) (v := ?_) _ rfl rfl (by kernel_rfl) (by kernel_rfl) (by kernel_rfl) (fun _ _ _ h => h) (by rfl) ?_ (by assumption) ?_
          rotate_left
          · (intro w hSw; (try dsimp only at hSw); go_simp) <;> with_reducible rfl
          try simp only [Act.put, List.setIfInBounds_toArray, List.set_cons_zero, List.set_cons_succ]
          refine takeD (i := 7) (d := some 50) (v := ?_) _ rfl rfl (by kernel_rfl) (by kernel_rfl) (by kernel_rfl) (fun _ _ _ h => h) (by rfl) ?_ (by assumption) ?_
          rotate_left
          · (intro w hSw; (try dsimp only at hSw); go_simp) <;> with_reducible rfl
          try simp only [Act.put, List.setIfInBounds_toArray, List.set_cons_zero, List.set_cons_succ]
          refine takeD (i := 8) (d := some 51) (v := ?_) _ rfl rfl (by kernel_rfl) (by kernel_rfl) (by kernel_rfl) (fun _ _ _ h => h) (by rfl) ?_ (by assumption) ?_
          rotate_left
          · (intro w hSw; (try dsimp only at hSw); go_simp) <;> with_reducible rfl
          try simp only [Act.put, List.setIfInBounds_toArray, List.set_cons_zero, List.set_cons_succ]
          refine takeD (i := 9) (d := some 52) (v := ?_) _ rfl rfl (by kernel_rfl) (by kernel_rfl) (by kernel_rfl) (fun _ _ _ h => h) (by rfl) ?_ (by assumption) ?_
          rotate_left
          · (intro w hSw; (try dsimp only at hSw); go_simp) <;> with_reducible rfl
          try simp only [Act.put, List.setIfInBounds_toArray, List.set_cons_zero, List.set_cons_succ]
          obtain ⟨W3, hW3⟩ : ∃ W3, wr.drew = W3 := ⟨_, rfl⟩
          simp only [hW3] at hHeld ⊢
          rw [hW3] at D2 D3 HPS
          have HO3 : Hid (W3.ownsRow w.heap.size 3 1 (.slice (some ⟨ga, 0, none⟩) k c) k (C T)) := by rw [← hW3]; exact HO.out
          clear hW3
          refine wpAnyH_ready (rs := [10]) (by kernel_rfl) (by simp) ?_
          refine AllReadyH.cons rfl (fun K hK => ?_) AllReadyH.nil
          go_simp
          refine hK.out _ _ ⟨hHeld.1.setCell _ _, ?_, ?_⟩ (fun hHeld => ?_)
          · rw [World.cell?_setCell_far _ _ _ _ (by simp; exact fun h => HPN.out h.symm)]; exact hHeld.2.1
          · rw [World.cell?_setCell_far _ _ _ _ (by simp; exact fun h => HG.out h.symm)]; exact hHeld.2.2
          clear hK K
          try simp only [Act.put, List.setIfInBounds_toArray, List.set_cons_zero, List.set_cons_succ]
          refine wpAnyH_done (by kernel_rfl) ?_ _
          have HB2 := Lib.hid hHeld.1
          have HO4 : Hid ((W3.setCell ⟨rb, j, none⟩ (.int .u32 y)).ownsRow w.heap.size 3 1 (.slice (some ⟨ga, 0, none⟩) k c) k (C T)) := ownsRow_setCell_below HO3.out HRB.out _
          generalize W3.setCell ⟨rb, j, none⟩ (.int .u32 y) = W4 at HPS HB2 HO4 ⊢
          clear hHeld D2 D3
          go_wp2_with fail
          go_roundw
          case rel =>
            have Q : F2Rel at_ lo hi p rb k l ns LL (some ⟨ga, 0, none⟩) c T w (.int .i64 ((m : Int) + 1)) W4 := ⟨⟨m + 1, putL M i kk y, HX.out, by go_num, by rw [HGO.out, HST.out], HNS.out, HPS.out, HB2.out, HO4.out⟩⟩
            first | exact Q | ((repeat apply Exists.intro); exact ⟨Q, rfl⟩)
          case measure => have := HX.out; simp [intOf]; omega
        · have hkn : m = k := by have := HM.out; omega
          clear hlt
          subst hkn
          have HF : Hid (R = (M, 0)) := by
            unfold Hid
            rw [← HR.out]; unfold flV
            rw [HGO.out, List.drop_of_length_le (by have := HNN.out; omega)]
            rfl
          go_wp2_with fail
          go_ret
          exact ⟨by rw [HF.out]; rfl, by rw [HF.out]; exact HQ.out, HB.out⟩
end Go.Proofs.Ytliggejkpmlgfaa
