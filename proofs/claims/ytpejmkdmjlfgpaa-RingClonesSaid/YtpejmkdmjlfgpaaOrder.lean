/-
  RingOrder's walk: what is put comes out in order, each once, as it was.
-/
import Derived.Test.YtpejmkdmjlfgpaaOwnLaw
namespace Go.Proofs.Ytpejmkdmjlfgpaa
open Go.RowKit
set_option linter.unusedSimpArgs false
set_option linter.unusedVariables false
/-- A slice of rows of words as the walk reads it. -/
def WordRows (w : World) (a : Option Addr) (len : Nat) : Prop := 0 < len → ∃ (b off : Nat) (A : Nat → Option Addr) (L C : Nat → Nat) (M : Nat → List Int), a = some ⟨b, off, none⟩ ∧
  ∀ r, r < len → w.cell? ⟨b, off + r, none⟩ = some (.slice (A r) (L r) (C r)) ∧ L r ≤ C r ∧ C r ≤ maxLen ∧ (A r = none → C r = 0) ∧ Reads w w.heap.size 1 (A r) (L r) (U (M r))
theorem wordRows_of {w : World} {x : Addr} {l c : Nat} {A : Nat → Option Addr} {L C : Nat → Nat} {Z : Nat → List Int} (hl : l ≤ c) (hm : c ≤ maxLen) (h1 : ∀ r, r < c → w.cell? (x.add r) = some (.slice (A r) (L r) (C r))) (h2 : ∀ r, r < c → L r ≤ C r) (h3 : ∀ r, r < c → C r ≤ maxLen)
    (h4 : ∀ r, r < c → (Z r).length = C r) (h5 : ∀ r, r < c → A r = none → C r = 0) (h6 : ∀ r, r < c → ∀ a', A r = some a' → ∀ i, i < C r → w.cell? (a'.add i) = some (.int .u32 ((Z r).getD i 0))) : WordRows w (some x) l ∧ l ≤ c ∧ l ≤ maxLen := by
  refine ⟨fun h0 => ?_, hl, Nat.le_trans hl hm⟩
  obtain ⟨b, off, spot⟩ := x
  have e0 := h1 0 (by omega)
  have hs : spot = none := by simpa [Addr.add] using World.cell?_spot e0
  subst hs
  refine ⟨b, off, A, L, C, fun r => (Z r).take (L r), rfl, fun r hr => ⟨?_, h2 r (by omega), h3 r (by omega), h5 r (by omega), ?_⟩⟩
  · have := h1 r (by omega); rwa [Addr.add_lit] at this
  · have z := h4 r (by omega)
    have lc := h2 r (by omega)
    refine ⟨by simp; omega, fun hn => ?_⟩
    cases hA : A r with
    | none => have := h5 r (by omega) hA; omega
    | some ad =>
      have hc := h6 r (by omega) ad hA
      refine ⟨ad, rfl, ?_, fun j u hu => ?_⟩
      · have := World.block_lt_of_cell? _ _ (hc 0 (by omega))
        rwa [block_of_add] at this
      · have hj : j < L r := by have := (List.getElem?_eq_some_iff.1 hu).1; simp at this; omega
        have e2 : u = .int .u32 ((Z r).getD j 0) := by
          have : (U ((Z r).take (L r)))[j]? = some (.int .u32 ((Z r).getD j 0)) := by simp [List.getD_eq_getElem?_getD, List.getElem?_take, hj, List.getElem?_eq_getElem (show j < (Z r).length by omega)]
          rw [this] at hu; exact (Option.some.inj hu).symm
        rw [e2]; exact hc j (by omega)
theorem Reads.front {w : World} {B n : Nat} {A : Option Addr} {l : List Int} (h : Reads w B 1 A n (U l)) (k : Nat) (hk : k ≤ n) : Reads w B 1 A k (U (l.take k)) := by
  have hl : l.length = n := by have := h.1; simpa using this
  refine ⟨by simp; omega, fun hn => ?_⟩
  obtain ⟨ad, e, hb, hc⟩ := h.2 (by omega)
  refine ⟨ad, e, hb, fun j u hu => hc j u ?_⟩
  rw [← hu]
  have hj : j < k := by
    have := (List.getElem?_eq_some_iff.mp hu).1
    simp at this; omega
  simp [U, List.getElem?_take, hj]
def SeqM (M : Nat → List Int) (o k : Nat) : List (List Int) := (List.range k).map fun j => M (o + j)
theorem seqM_len (M : Nat → List Int) (o k : Nat) : (SeqM M o k).length = k := by simp [SeqM]
theorem seqM_put (M : Nat → List Int) (k : Nat) : SeqM M 0 k ++ [M k] = SeqM M 0 (k + 1) := by
  unfold SeqM
  rw [List.range_succ, List.map_append]; simp
theorem seqM_take (M : Nat → List Int) (o k : Nat) : SeqM M o (k + 1) = M o :: SeqM M (o + 1) k := by
  unfold SeqM
  rw [List.range_succ_eq_map, List.map_cons, List.map_map]
  congr 1
  apply List.map_congr_left
  intro j _
  simp only [Function.comp_apply]
  congr 1
  omega
theorem row_info' : (Try.prog.info? 32).map (fun i => (i.zero, i.size, i.bytes)) = some (some (.slice none 0 0), 1, 24) := row_info
/-- The blocks that the ring's messages may lie in: not the ring's own, not the list's. -/
def Free (g T : Nat) (A : Option Addr) (b : Nat) : Prop := b < T ∧ b ≠ g ∧ ∀ ad, A = some ad → b ≠ ad.block
structure InRel (w : World) (g k : Nat) (V : Nat → Value) (M : Nat → List Int) (l i : Value) (wr : World) : Prop where
  ex : ∃ (j : Nat) (A : Option Addr) (c : Nat), j ≤ k ∧ i = .int .i64 (j : Int) ∧ l = .slice A j c ∧ wr.ownsRow w.heap.size 32 1 (.slice A j c) j ((List.range j).map V) ∧
    (∀ ad, A = some ad → g ≠ ad.block) ∧ RingF wr (Free g wr.heap.size A) g 32 32 0 (SeqM M 0 j) ∧ Below w.heap.size w wr
structure OutRel (w : World) (g k : Nat) (A : Option Addr) (c : Nat) (Q : Nat → Prop) (V : Nat → Value) (M : Nat → List Int) (i : Value) (wr : World) : Prop where
  ex : ∃ (j r f : Nat), j + r = k ∧ i = .int .i64 (j : Int) ∧ wr.ownsRow w.heap.size 32 1 (.slice A k c) k ((List.range k).map V) ∧ RingF wr Q g 32 32 f (SeqM M j r) ∧ Below w.heap.size w wr
theorem row_past {w w' : World} {x B n c : Nat} {A : Option Addr} {xs : List Value} (h : w.ownsRow B 32 1 (.slice A n c) n xs) (p : Past x w w') (hx : ∀ ad, A = some ad → x ≠ ad.block) : w'.ownsRow B 32 1 (.slice A n c) n xs := by
  refine ⟨h.1, ?_⟩
  rcases h.2 with h1 | ⟨g', cap, cur, hv, hbg, hg, r⟩
  · exact .inl h1
  · refine .inr ⟨g', cap, cur, hv, hbg, ?_, r⟩
    injection hv with h1
    subst h1
    rw [p.block g' (h.lt g' rfl).2 (fun e => hx _ rfl e.symm)]; exact hg
/-- One put, one appended. -/
theorem in_next {w wr w3 w5 : World} {g j : Nat} {A A' : Option Addr} {c c' : Nat} {L : List (List Int)} {xs : List Value} {o : Obj} (hA : ∀ ad, A = some ad → g ≠ ad.block) (hg : g < wr.heap.size) (hrow : wr.ownsRow w.heap.size 32 1 (.slice A j c) j xs)
    (R : RingF w3 (fun b => Free g wr.heap.size A b ∨ (wr.heap.size ≤ b ∧ b < w3.heap.size)) g 32 32 0 L) (hs : wr.heap.size ≤ w3.heap.size)
    (hgr : (w3.alloc o).grownBy w5 (Value.slice A j c).ownBlock) (hr : (Value.slice A' (j + 1) c').ownBlock = (Value.slice A j c).ownBlock ∨ (Value.slice A' (j + 1) c').ownBlock = some (w3.alloc o).heap.size) :
    (∀ ad, A' = some ad → g ≠ ad.block) ∧ RingF w5 (Free g w5.heap.size A') g 32 32 0 L := by
  have s3 : (w3.alloc o).heap.size = w3.heap.size + 1 := by simp
  have s5 := hgr.size
  have ha : ∀ ad, A = some ad → ad.block < wr.heap.size := fun ad e => by
    subst e
    exact (hrow.lt ad.block rfl).2
  have hA' : ∀ b, b < w3.heap.size → (∀ ad, A = some ad → b ≠ ad.block) → ∀ ad, A' = some ad → b ≠ ad.block := by
    intro b hb hne ad e
    subst e
    rcases hr with h | h
    · cases A with
      | none => cases h
      | some a0 =>
        have h' : some ad.block = some a0.block := h
        injection h' with h'
        rw [h']; exact hne a0 rfl
    · have h' : some ad.block = some _ := h
      injection h' with h'
      omega
  have q1 : ∀ b, (Free g wr.heap.size A b ∨ (wr.heap.size ≤ b ∧ b < w3.heap.size)) → b < w3.heap.size ∧ b ≠ g ∧ ∀ ad, A = some ad → b ≠ ad.block := by
    intro b hb
    rcases hb with h1 | h1
    · exact ⟨by have := h1.1; omega, h1.2.1, h1.2.2⟩
    · exact ⟨h1.2, by omega, fun ad e => by have := ha ad e; omega⟩
  refine ⟨hA' g (by omega) hA, ?_⟩
  have R5 := R.keep (w' := w5) (by omega) fun b hb hq => by
    have hne : ∀ ad, A = some ad → b ≠ ad.block := by
      rcases hq with h1 | h1
      · subst h1; exact hA
      · exact (q1 b h1).2.2
    rw [hgr.block b (by omega) (fun e => by
      cases A with
      | none => cases e
      | some a0 =>
        have h' : some b = some a0.block := e
        injection h' with h'
        exact hne a0 rfl h')]
    exact Below.heap_alloc _ _ _ hb
  exact R5.more (fun b hb => ⟨by have := (q1 b hb).1; omega, (q1 b hb).2.1, hA' b (q1 b hb).1 (q1 b hb).2.2⟩) (fun h => h.2.1 rfl)

set_option maxHeartbeats 4000000 in
theorem order_walk (a : Option Addr) (len cap : Nat) (w : World) (h1 : WordRows w a len) (hcap : len ≤ cap) (hlen : len ≤ maxLen) :
    Calls Try.prog 5 #[.slice a len cap] w fun e w' => e = .returned (.bool true) ∧ Below w.heap.size w w' := by
  obtain ⟨i0, hi, hz0, hz1, hz2⟩ := info_parts row_info
  obtain ⟨k, hk, hk1, hk2⟩ : ∃ k : Nat, min (len : Int) 32 = (k : Int) ∧ k ≤ len ∧ k ≤ 32 := ⟨min len 32, by omega, by omega, by omega⟩
  have hk' : (if (32 : Int) < (len : Int) then (32 : Int) else (len : Int)) = (k : Int) := by rw [← hk]; split <;> omega
  have kc : (k : Int) ≤ (cap : Int) := by omega
  have k0 : (0 : Int) ≤ (k : Int) := by omega
  have NEW := Lib.hid (new_ok 32 32 w ⟨by omega, by omega⟩ ⟨by omega, by omega⟩)
  obtain ⟨b, off, A, L, C, M, ha, hrows⟩ : ∃ (b off : Nat) (A : Nat → Option Addr) (L C : Nat → Nat) (M : Nat → List Int), (0 < k → a = some ⟨b, off, none⟩) ∧ ∀ r, r < k → w.cell? ⟨b, off + r, none⟩ = some (.slice (A r) (L r) (C r)) ∧ L r ≤ C r ∧ C r ≤ maxLen ∧ (A r = none → C r = 0) ∧ Reads w w.heap.size 1 (A r) (L r) (U (M r)) := by
    by_cases h : 0 < k
    · obtain ⟨b, off, A, L, C, M, ha, hr⟩ := h1 (by omega)
      exact ⟨b, off, A, L, C, M, fun _ => ha, fun r hr' => hr r (by omega)⟩
    · exact ⟨0, 0, fun _ => none, fun _ => 0, fun _ => 0, fun _ => [], fun h' => absurd h' h, fun r hr' => by omega⟩
  have HROWS := Lib.hid hrows
  have HA := Lib.hid ha
  have K32 := Lib.hid hk2
  obtain ⟨MS, hMS⟩ : ∃ MS : Nat → List Int, MS = fun r => (M r).take (min (L r) 32) := ⟨_, rfl⟩
  obtain ⟨VS, hVS⟩ : ∃ VS : Nat → Value, VS = fun r => Value.slice (A r) (min (L r) 32) (C r) := ⟨_, rfl⟩
  have HMS := Lib.hid hMS
  have HVS := Lib.hid hVS
  clear h1 hrows ha hk1 hk2 hcap hlen hMS hVS
  go_enter Try.func5, Try.ntmps5
  go_wp2_with fail
  refine NEW.out.mono ?_
  rintro e w1 ⟨rfl, R1, b1⟩
  obtain ⟨g, hg⟩ : ∃ g, w.heap.size = g := ⟨_, rfl⟩
  have R1 := R1.more (Q' := Free w.heap.size w1.heap.size none) (fun b hb => hb.elim) (fun h => h.2.1 rfl)
  have HR := Lib.hid R1
  have B1 := Lib.hid b1
  clear R1 b1 NEW
  rw [hg] at HR
  simp only [hg]
  go_wp2_with fail
  refine (told_any w1).mono ?_
  rintro e w2 ⟨rfl, b2⟩
  have R2 := (HR.out.below b2).more (Q' := Free g w2.heap.size none) (fun b hb => ⟨Nat.lt_of_lt_of_le hb.1 b2.size, hb.2.1, (fun ad e => by cases e)⟩) (fun h => h.2.1 rfl)
  have B2 := B1.out.trans (b2.mono B1.out.size)
  have HG := Lib.hid hg
  clear b2 B1 HR hg hk hk'
  go_wp2_with fail
  go_loopw [5, 6] (fun l i wr => InRel w g k VS MS l i wr) (fun _ i _ => k - (intOf i).toNat)
  case atStart => exact ⟨⟨0, none, 0, by omega, rfl, rfl, own_row0 _ _, (fun ad e => by cases e), R2, B2⟩⟩
  case round =>
    clear R2 B2
    obtain ⟨⟨j, Ai, ci, hj, rfl, rfl, hown, hAg, hR, hB⟩⟩ := hrel
    by_cases hlt : j < k
    · obtain ⟨Aj, hAj⟩ : ∃ Aj, Hid (A j = Aj) := ⟨_, rfl⟩
      obtain ⟨Lj, hLj⟩ : ∃ Lj, Hid (L j = Lj) := ⟨_, rfl⟩
      obtain ⟨Cj, hCj⟩ : ∃ Cj, Hid (C j = Cj) := ⟨_, rfl⟩
      obtain ⟨Mj, hMj⟩ : ∃ Mj, Hid (M j = Mj) := ⟨_, rfl⟩
      obtain ⟨hcell, hLC, hCm, hAn, hrd⟩ := HROWS.out j hlt
      rw [hAj.out, hLj.out, hCj.out] at hcell
      rw [hLj.out, hCj.out] at hLC
      rw [hAj.out, hCj.out] at hAn
      rw [hAj.out, hLj.out, hMj.out] at hrd
      rw [hCj.out] at hCm
      obtain rfl := HA.out (by omega)
      obtain ⟨mj, hmj, hmj'⟩ : ∃ mj : Nat, min (Lj : Int) 32 = (mj : Int) ∧ min Lj 32 = mj := ⟨min Lj 32, by omega, rfl⟩
      have hmj2 : (if (32 : Int) < (Lj : Int) then (32 : Int) else (Lj : Int)) = (mj : Int) := by rw [← hmj]; split <;> omega
      have mc : (mj : Int) ≤ (Cj : Int) := by omega
      have m0 : (0 : Int) ≤ (mj : Int) := by omega
      have j32 : (j : Int) ≤ 32 := by have := K32.out; omega
      have HRD := Lib.hid (hrd.front mj (by omega))
      have m32 : Hid (mj ≤ 32) := by unfold Hid; omega
      have hcell := cell_later hB hcell
      have HAN := Lib.hid hAn
      have HB := Lib.hid hB
      have HR := Lib.hid hR
      have HO := Lib.hid hown
      have HAG := Lib.hid hAg
      have HMJ := Lib.hid hmj'
      clear hB hR hown hAg hAn hrd hLC hCm hmj'
      go_wp2_with fail
      refine wp_region_held_drew (S := (fun w' => Below w.heap.size w w' ∧ w'.cell? ⟨b, off + j, none⟩ = some (.slice Aj Lj Cj))) (by kernel_rfl) ?_ (fun hHeld => ?_)
      · exact ⟨HB.out.drew, hcell⟩
      refine takeD (i := 0) (d := some 32) (v := ?_) _ rfl rfl (by kernel_rfl) (by kernel_rfl) (by kernel_rfl) (fun _ _ _ h => h) (by rfl) ?_ (by assumption) ?_
      rotate_left
      · (intro w hSw; (try dsimp only at hSw); go_simp) <;> with_reducible rfl
      try simp only [Act.put, List.setIfInBounds_toArray, List.set_cons_zero, List.set_cons_succ]
      refine takeD (i := 1) (d := some 33) (v := ?_) _ rfl rfl (by kernel_rfl) (by kernel_rfl) (by kernel_rfl) (fun _ _ _ h => h) (by rfl) ?_ (by assumption) ?_
      rotate_left
      · (intro w hSw; (try dsimp only at hSw); go_simp) <;> with_reducible rfl
      try simp only [Act.put, List.setIfInBounds_toArray, List.set_cons_zero, List.set_cons_succ]
      refine takeD (i := 2) (d := some 34) (v := ?_) _ rfl rfl (by kernel_rfl) (by kernel_rfl) (by kernel_rfl) (fun _ _ _ h => h) (by rfl) ?_ (by assumption) ?_
      rotate_left
      · (intro w hSw; (try dsimp only at hSw); go_simp) <;> with_reducible rfl
      try simp only [Act.put, List.setIfInBounds_toArray, List.set_cons_zero, List.set_cons_succ]
      refine takeD (i := 3) (d := some 35) (v := ?_) _ rfl rfl (by kernel_rfl) (by kernel_rfl) (by kernel_rfl) (fun _ _ _ h => h) (by rfl) ?_ (by assumption) ?_
      rotate_left
      · (intro w hSw; (try dsimp only at hSw); go_simp) <;> with_reducible rfl
      try simp only [Act.put, List.setIfInBounds_toArray, List.set_cons_zero, List.set_cons_succ]
      refine takeD (i := 4) (d := some 36) (v := ?_) _ rfl rfl (by kernel_rfl) (by kernel_rfl) (by kernel_rfl) (fun _ _ _ h => h) (by rfl) ?_ (by assumption) ?_
      rotate_left
      · (intro w hSw; (try dsimp only at hSw); go_simp) <;> with_reducible rfl
      try simp only [Act.put, List.setIfInBounds_toArray, List.set_cons_zero, List.set_cons_succ]
      refine takeD (i := 5) (d := some 37) (v := ?_) _ rfl rfl (by kernel_rfl) (by kernel_rfl) (by kernel_rfl) (fun _ _ _ h => h) (by rfl) ?_ (by assumption) ?_
      rotate_left
      · (intro w hSw; (try dsimp only at hSw); go_simp) <;> with_reducible rfl
      try simp only [Act.put, List.setIfInBounds_toArray, List.set_cons_zero, List.set_cons_succ]
      refine takeD (i := 6) (d := some 38) (v := ?_) _ rfl rfl (by kernel_rfl) (by kernel_rfl) (by kernel_rfl) (fun _ _ _ h => h) (by rfl) ?_ (by assumption) ?_
      rotate_left
      · (intro w hSw; (try dsimp only at hSw); go_simp) <;> with_reducible rfl
      try simp only [Act.put, List.setIfInBounds_toArray, List.set_cons_zero, List.set_cons_succ]
      refine takeD (i := 7) (d := some 39) (v := ?_) _ rfl rfl (by kernel_rfl) (by kernel_rfl) (by kernel_rfl) (fun _ _ _ h => h) (by rfl) ?_ (by assumption) ?_
      rotate_left
      · (intro w hSw; (try dsimp only at hSw); go_simp) <;> with_reducible rfl
      try simp only [Act.put, List.setIfInBounds_toArray, List.set_cons_zero, List.set_cons_succ]
      refine takeD (i := 8) (d := some 40) (v := ?_) _ rfl rfl (by kernel_rfl) (by kernel_rfl) (by kernel_rfl) (fun _ _ _ h => h) (by rfl) ?_ (by assumption) ?_
      rotate_left
      · (intro w hSw; (try dsimp only at hSw); go_simp) <;> with_reducible rfl
      try simp only [Act.put, List.setIfInBounds_toArray, List.set_cons_zero, List.set_cons_succ]
      refine takeD (i := 9) (d := some 41) (v := ?_) _ rfl rfl (by kernel_rfl) (by kernel_rfl) (by kernel_rfl) (fun _ _ _ h => h) (by rfl) ?_ (by assumption) ?_
      rotate_left
      · (intro w hSw; (try dsimp only at hSw); go_simp) <;> with_reducible rfl
      try simp only [Act.put, List.setIfInBounds_toArray, List.set_cons_zero, List.set_cons_succ]
      refine takeD (i := 10) (d := some 42) (v := ?_) _ rfl rfl (by kernel_rfl) (by kernel_rfl) (by kernel_rfl) (fun _ _ _ h => h) (by rfl) ?_ (by assumption) ?_
      rotate_left
      · (intro w hSw; (try dsimp only at hSw); go_simp) <;> with_reducible rfl
      try simp only [Act.put, List.setIfInBounds_toArray, List.set_cons_zero, List.set_cons_succ]
      refine takeD (i := 11) (d := some 7) (v := ?_) _ rfl rfl (by kernel_rfl) (by kernel_rfl) (by kernel_rfl) (fun _ _ _ h => h) (by rfl) ?_ (by assumption) ?_
      rotate_left
      · (intro w hSw; (try dsimp only at hSw); go_simp) <;> with_reducible rfl
      try simp only [Act.put, List.setIfInBounds_toArray, List.set_cons_zero, List.set_cons_succ]
      refine wpAnyH_done (by kernel_rfl) ?_ _
      go_wp2_with fail
      have RD := HR.out.below (Below.refl wr.heap.size wr).drew
      have RRD := (HRD.out.below HB.out).more HB.out.size
      refine (put_ok _ _ _ _ _ _ _ RD Aj mj Cj (Mj.take mj) HAN.out RRD m32.out (by rw [seqM_len]; have := K32.out; omega)).mono ?_
      rintro e w3 ⟨rfl, R3, p3'⟩
      have p3 : Past g wr w3 := ((Past.refl g wr).drew).trans p3'
      clear p3'
      have e3 : SeqM MS 0 j ++ [Mj.take mj] = SeqM MS 0 (j + 1) := by
        rw [← seqM_put MS j]
        congr 2
        rw [HMS.out, ← hMj.out, ← HMJ.out, ← hLj.out]
      have ev : VS j = .slice Aj mj Cj := by rw [HVS.out, ← hAj.out, ← hCj.out, ← HMJ.out, ← hLj.out]
      rw [e3] at R3
      have s3 := p3.size
      have B3 : Below w.heap.size w w3 := HB.out.trans (p3.below (by have := HG.out; omega) HB.out.size)
      have O3 : w3.ownsRow w.heap.size 32 1 (.slice Ai j ci) j ((List.range j).map VS) := row_past HO.out p3 HAG.out
      have HE := Lib.hid ev
      have HR3 := Lib.hid R3
      have HS3 := Lib.hid s3
      have GL := Lib.hid HR.out.lt
      clear R3 p3 RD RRD e3 ev s3 hcell HRD HAN HR HB
      go_wp2_with (at_builtin; refine wpList_append_any _ rfl (.tmp 47) (.tmp 49) _ rfl w.heap.size 32 i0 _ 1 24 Try.underlying24 hi hz0 hz1 hz2 rfl (by omega) (.slice Ai j ci) j ((List.range j).map VS) rfl (own_below O3 ((Below.refl _ _).alloc (Nat.le_refl _) _)) _ (some ⟨w3.heap.size, 0, none⟩) 1 1 [.slice Aj mj Cj] rfl (reads_new w3 [.slice Aj mj Cj] 32) (by intro u hu; simp at hu; subst hu; rfl) ?c2 ?c3 ?c4 ?_)
      case c2 => have := K32.out; unfold maxLen; omega
      case c3 => have := K32.out; omega
      case c4 => have := B3.size; simp; omega
      intro v4 w4 hown4 hg4 hrow4
      obtain ⟨A4, c4, hv⟩ := slice_form hown4
      subst hv
      have hbelow : Below w.heap.size w w4 := (B3.alloc B3.size _).grown hg4 (by have := B3.size; simp; omega) (fun q hq => (HO.out.lt q hq).1)
      have ev4 : (List.range j).map VS ++ [.slice Aj mj Cj] = (List.range (j + 1)).map VS := by rw [List.range_succ, List.map_append, ← HE.out]; rfl
      rw [ev4] at hown4
      obtain ⟨f1, f2⟩ := in_next HAG.out GL.out HO.out HR3.out HS3.out hg4 (A' := A4) (c' := c4) (by rw [show (w3.alloc (Obj.cells #[Value.slice Aj mj Cj] 32)).heap.size = w3.heap.size + 1 by simp]; exact hrow4)
      have HF1 := Lib.hid f1
      have HF2 := Lib.hid f2
      have HOW := Lib.hid hown4
      have HBL := Lib.hid hbelow
      clear O3 B3 hg4 hrow4 hown4 hbelow f1 f2 ev4 HO HAG HR3 HS3
      go_wp2_with fail
      go_roundw
      case rel => first | exact ⟨⟨j + 1, A4, c4, by omega, by go_num, rfl, HOW.out, HF1.out, HF2.out, HBL.out⟩⟩ | ((repeat apply Exists.intro); exact ⟨⟨⟨j + 1, A4, c4, by omega, by go_num, rfl, HOW.out, HF1.out, HF2.out, HBL.out⟩⟩, rfl⟩)
      case measure => simp [intOf]; omega
    · obtain rfl : j = k := by omega
      have HAG := Lib.hid hAg
      have NG := Lib.hid hR.nog
      obtain ⟨Q, hQ⟩ : ∃ Q : Nat → Prop, Q = Free g wr.heap.size Ai := ⟨_, rfl⟩
      rw [← hQ] at hR
      clear hAg NG hQ
      go_wp2_with fail
      go_loopw [8] (fun i wr => OutRel w g j Ai ci Q VS MS i wr) (fun i _ => j - (intOf i).toNat)
      case atStart => exact ⟨⟨0, j, 0, by omega, rfl, hown, hR, hB⟩⟩
      case round =>
        clear hown hR hB
        obtain ⟨⟨i, r, f, hir, rfl, hown, hR, hB⟩⟩ := hrel
        by_cases hil : i < j
        · obtain ⟨r', rfl⟩ : ∃ r', r = r' + 1 := ⟨r - 1, by omega⟩
          obtain ⟨gi, rfl, hgi, hgi'⟩ := own_at hown (by omega)
          have HR' := hR
          rw [seqM_take] at HR'
          obtain ⟨_, _, hCm, hAn, hrd⟩ := HROWS.out i hil
          have ev : VS i = .slice (A i) (min (L i) 32) (C i) := by rw [HVS.out]
          have em : MS i = (M i).take (min (L i) 32) := by rw [HMS.out]
          have hrd2 := hrd.front (min (L i) 32) (by omega)
          rw [← em] at hrd2
          have TK := take_some _ _ _ _ _ _ _ _ _ HR' rfl
          have ml : (MS i).length = min (L i) 32 := by have := hrd2.1; simpa using this
          rw [ml] at TK
          have hcell : wr.cell? ⟨gi, i, none⟩ = some (VS i) := by
            rw [hown.cellAt i (by omega)]; simp [hil]
          rw [ev] at hcell
          obtain ⟨Aj, hAj⟩ : ∃ Aj, A i = Aj := ⟨_, rfl⟩
          obtain ⟨Lj, hLj⟩ : ∃ Lj, min (L i) 32 = Lj := ⟨_, rfl⟩
          obtain ⟨Cj, hCj⟩ : ∃ Cj, C i = Cj := ⟨_, rfl⟩
          obtain ⟨Mj, hMj⟩ : ∃ Mj, MS i = Mj := ⟨_, rfl⟩
          have l32 : Lj ≤ 32 := by omega
          have i32 : (i : Int) ≤ 32 := by have := K32.out; omega
          rw [hLj, hMj] at TK
          rw [hAj, hLj, hCj] at hcell
          rw [hAj, hLj, hMj] at hrd2
          have HTK := Lib.hid TK
          have HRD := Lib.hid hrd2
          have HO := Lib.hid hown
          have HB := Lib.hid hB
          have HIR := Lib.hid hir
          have L32 := Lib.hid l32
          clear TK hrd2 hown hB HR' hR hrd hAn hCm ev em ml hAj hLj hCj hMj hir l32
          go_wp2_with fail
          refine HTK.out.mono ?_
          rintro e w3 ⟨A3, c3, rfl, s3, R3, p3⟩
          obtain ⟨A', c', hv, _, hr, _⟩ := s3.ex
          have ll : Mj.length = Lj := by have := HRD.out.1; simpa using this
          rw [ll] at hv hr
          injection hv with e1 _ e2
          subst e1
          subst e2
          have B3 := HB.out.trans (p3.below (by have := HG.out; omega) HB.out.size)
          have O3 := row_past HO.out p3 HAG.out
          have hcell3 : w3.cell? ⟨gi, i, none⟩ = some (.slice Aj Lj Cj) := (World.cell?_of_block (a := ⟨gi, i, none⟩) (p3.block gi hgi' (fun e => HAG.out _ rfl e.symm))).trans hcell
          have SM := Lib.hid (same_true A3 Aj Lj Lj c3 Cj Mj _ _ _ hr (HRD.out.below B3) (by have := L32.out; omega) (by have := L32.out; omega))
          have HB3 := Lib.hid B3
          have HO3 := Lib.hid O3
          have HR3 := Lib.hid R3
          clear B3 O3 R3 s3 hr p3 HTK HB HO hcell ll
          go_wp2_with fail
          refine SM.out.mono ?_
          rintro e w4 ⟨rfl, b4⟩
          have B4 := Lib.hid (HB3.out.trans (b4.mono HB3.out.size))
          have O4 := Lib.hid (own_below HO3.out b4)
          have R4 := Lib.hid (HR3.out.below b4)
          clear b4 HB3 HO3 HR3 SM
          go_wp2_with fail
          go_roundw
          case rel => first | exact ⟨⟨i + 1, r', _, by have := HIR.out; omega, by go_num, O4.out, R4.out, B4.out⟩⟩ | ((repeat apply Exists.intro); exact ⟨⟨⟨i + 1, r', _, by have := HIR.out; omega, by go_num, O4.out, R4.out, B4.out⟩⟩, rfl⟩)
          case measure => simp [intOf]; omega
        · obtain rfl : r = 0 := by omega
          obtain rfl : i = j := by omega
          have LEN := len_any _ _ _ _ _ _ _ hR
          rw [seqM_len, show ((0 : Nat) : Int) = 0 by rfl] at LEN
          have HLEN := Lib.hid LEN
          have HB := Lib.hid hB
          clear LEN hR hB hown
          go_wp2_with fail
          refine HLEN.out.mono ?_
          rintro e w4 ⟨rfl, b4⟩
          go_wp2_with fail
          go_ret
          exact ⟨rfl, HB.out.trans (b4.mono HB.out.size)⟩
end Go.Proofs.Ytpejmkdmjlfgpaa
