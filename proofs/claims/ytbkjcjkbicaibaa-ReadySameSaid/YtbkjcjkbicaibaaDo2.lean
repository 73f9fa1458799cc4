/-
  An act on a list and on the reference's, and what it may change. Each statement bears its own conditions.
-/
import Derived.Test.YtbkjcjkbicaibaaAlikeR
namespace Go.Proofs.Ytbkjcjkbicaibaa
open Go.RowKit
set_option linter.unusedVariables false
set_option linter.unusedSimpArgs false
theorem tg_filter_same (p : Nat) (l : List Int) : (tg p l).filter (fun y => decide (y.2 = (p : Int))) = tg p l := by
  rw [List.filter_eq_self]
  intro y hy
  obtain ⟨x, _, rfl⟩ := List.mem_map.1 hy
  simp
theorem fl_line (X : Nat → List Int) {p : Nat} (hp : p < 64) : ((flP X).filter (fun y => decide (y.2 = (p : Int)))).map (fun y => y.1) = X p := by
  obtain ⟨H, T, hs, hH, hT⟩ := fl_split X hp
  rw [fl_self X hs, List.filter_append, List.filter_append, tg_filter_same]
  have h1 : H.filter (fun y => decide (y.2 = (p : Int))) = [] := by
    rw [List.filter_eq_nil_iff]; intro y hy; have := hH y hy; simp; omega
  have h2 : T.filter (fun y => decide (y.2 = (p : Int))) = [] := by
    rw [List.filter_eq_nil_iff]; intro y hy; have := hT y hy; simp; omega
  rw [h1, h2]; simp [tg_fst]
theorem fl_inj {X Y : Nat → List Int} : flP X = flP Y ↔ ∀ p, p < 64 → X p = Y p := by
  constructor
  · intro h p hp
    rw [← fl_line X hp, h, fl_line Y hp]
  · intro h
    unfold flP
    exact fp_same 64 (Nat.le_refl _) (fun q hq _ => h q hq)
theorem eqL_fl (X Y : Nat → List Int) : eqL X Y = decide (flP X = flP Y) := by
  unfold eqL
  by_cases h : flP X = flP Y
  · rw [decide_eq_true h]; exact decide_eq_true (fl_inj.1 h)
  · rw [decide_eq_false h]; exact decide_eq_false (fun e => h (fl_inj.2 e))
/-- The reference's next list. -/
def Rr (κ : Nat) (M T : Int) (m m' : List (Int × Int)) : Prop :=
  (κ = 0 ∧ ∃ r, PuR m M T false r m') ∨ (κ = 1 ∧ ∃ r, PuR m M T true r m') ∨ (κ = 2 ∧ ((m = [] ∧ m' = []) ∨ ∃ y, m = y :: m')) ∨ (κ = 3 ∧ ∃ ok, DpR m M ok m') ∨ (κ = 4 ∧ ∃ ok, ChR m M T ok m')
/-- Where a slice may lie. -/
def Sc (w w' : World) (A A' : Option Addr) : Prop := ∀ ad', A' = some ad' → (∃ ad, A = some ad ∧ ad'.block = ad.block) ∨ (w.heap.size ≤ ad'.block ∧ ad'.block < w'.heap.size)
theorem Sc.same {w w' : World} {A : Option Addr} : Sc w w' A A := fun ad e => .inl ⟨ad, e, rfl⟩
/-- What an act may change. -/
structure Dn (w w' : World) (g : Nat) (rb rb' : Nat → Nat) (A A' : Option Addr) : Prop where
  ch : ChL g rb w w'
  fr : ∀ p, p < 64 → rb' p = rb p ∨ w.heap.size ≤ rb' p
  sc : Sc w w' A A'
theorem Dn.of {w w2 w3 w4 : World} {g : Nat} {rb rb' : Nat → Nat} {X' : Nat → List Int} {A A' : Option Addr} (b : Below w.heap.size w w2) (x : Nx w2 w3 g rb rb' X') (b' : Below w3.heap.size w3 w4) (s : Sc w w4 A A') : Dn w w4 g rb rb' A A' :=
  ⟨⟨b'.os.trans (x.ch.os.trans b.os), b'.tape.trans (x.ch.tape.trans b.tape), b'.output.trans (x.ch.output.trans b.output), Nat.le_trans b.size (Nat.le_trans x.ch.size b'.size), fun k hk h1 h2 =>
    (b'.block k (Nat.lt_of_lt_of_le hk (Nat.le_trans b.size x.ch.size))).trans ((x.ch.block k (Nat.lt_of_lt_of_le hk b.size) h1 h2).trans (b.block k hk))⟩, fun p hp => by
    rcases x.fr p hp with e | e
    · exact .inl e
    · exact .inr (Nat.le_trans b.size e), s⟩
theorem NR.sc {w w1 w2 w3 : World} {A A' : Option Addr} {n c : Nat} {m : List (Int × Int)} (r : NR w1 w2 A A' n c m) (h1 : w.heap.size ≤ w1.heap.size) (h3 : w2.heap.size ≤ w3.heap.size) : Sc w w3 A A' := by
  rcases r.fr with e | e
  · subst e; exact Sc.same
  · exact fun ad h => .inr ⟨Nat.le_trans h1 (e ad h).1, Nat.lt_of_lt_of_le (e ad h).2 h3⟩
theorem Sc.cut {w w' : World} {b off c k : Nat} {A2 : Option Addr} (h : (if c = 1 then some (⟨b, off, none⟩ : Addr) else some ⟨b, off + k, none⟩) = A2) : Sc w w' (some ⟨b, off, none⟩) A2 := by
  intro ad e
  refine .inl ⟨_, rfl, ?_⟩
  rw [← h] at e
  split at e <;> (injection e with e; rw [← e])
set_option maxRecDepth 100000 in
set_option maxHeartbeats 8000000 in
theorem do2_any (g : Nat) (rb : Nat → Nat) (X : Nat → List Int) (A : Option Addr) (n c : Nat) (K M T : Int) (w0 w : World) (h : DS w0 w g rb X A n c (flP X)) (hn : n ≤ 900) (κ : Nat) (hK : K = (κ : Int)) (hκ : κ < 5) :
    Calls Try.prog 10 #[.pointer (some ⟨g, 0, none⟩), .slice A n c, .agg #[.int .i64 K, .int .i64 M, .int .i64 T]] w fun e w' => ∃ A' n' c' rb' X', e = .returned (.tuple #[.pointer (some ⟨g, 0, none⟩), .slice A' n' c', .bool true]) ∧ DS w0 w' g rb' X' A' n' c' (flP X') ∧ n' ≤ n + 1 ∧ Dn w w' g rb rb' A A' ∧ Rr κ M T (flP X) (flP X') := by
  have he : ∀ (x : Nat) (w : World), (binOp .eql 23 (.pointer (some ⟨x, 0, none⟩)) (.pointer none)).run Try.prog w = .ok (.bool false) w := fun _ _ => rfl
  have HN : Hid (n ≤ 900) := hn
  have HKK : Hid (K = (κ : Int) ∧ κ < 5) := ⟨hK, hκ⟩
  clear hK hκ
  have HSM : Hid (∀ p, p < 64 → (X p).length ≤ 900) := fun p hp => by
    have := line_le X hp
    have := h.len
    omega
  have BA : Below w.heap.size w (w.alloc (.cells #[.int .i64 K, .int .i64 M, .int .i64 T] 29)) := (Below.refl _ _).alloc (Nat.le_refl _) _
  have H1 := Lib.hid (h.below BA)
  have BAH := Lib.hid BA
  have KB := Lib.hid (Kb.new w K M T)
  have NAB : Hid (w.heap.size ≠ g ∧ ∀ p, p < 64 → w.heap.size ≠ rb p) := ⟨by have := h.lf.lt; omega, fun p hp => by have := h.lf.rlt hp; omega⟩
  obtain ⟨m, hm⟩ : ∃ m, flP X = m := ⟨_, rfl⟩
  rw [hm] at H1
  have HM := Lib.hid hm
  clear h hn BA hm
  obtain ⟨ab, hab⟩ : ∃ ab, w.heap.size = ab := ⟨_, rfl⟩
  obtain ⟨w1, hw1⟩ : ∃ w1, w.alloc (.cells #[.int .i64 K, .int .i64 M, .int .i64 T] 29) = w1 := ⟨_, rfl⟩
  simp only [hw1] at H1 KB BAH
  simp only [hab] at NAB KB
  have d0 := KB.out.d0
  have d1 := KB.out.d1
  have d2 := KB.out.d2
  go_enter Try.func10, Try.ntmps10
  by_cases h0 : K = 0
  · subst h0
    go_wp2_with fail
    refine (rput_any A n c M T false m w1 H1.out.rd H1.out.len (by have := HN.out; omega) H1.out.cap).mono ?_
    rintro e w2 ⟨A2, n2, c2, r, m2, rfl, hp, hr⟩
    rw [← HM.out] at hp
    have LN : Hid (n2 ≤ n + 1) := by
      have h1 := pur_len hp
      have h2 := hr.len
      have h3 := H1.out.len
      rw [HM.out] at h1
      unfold Hid; omega
    have RR : Hid (Rr κ M T (flP X) m2) := .inl ⟨by have := HKK.out; omega, r, hp⟩
    have B2 := Lib.hid (BAH.out.trans (hr.bl.mono BAH.out.size))
    have NRH := Lib.hid hr
    obtain ⟨rfl, rfl⟩ := put_ref hp
    have H2 := Lib.hid (H1.out.ref hr)
    have KB2 := Lib.hid (KB.out.below hr.bl)
    clear hp hr H1 KB d0 d1 d2
    have d0 := KB2.out.d0
    have d1 := KB2.out.d1
    have d2 := KB2.out.d2
    go_wp2_with fail
    refine (put_any g rb X M T w2 H2.out.lf (fun p hp => by have := HSM.out p hp; omega)).mono ?_
    rintro e w3 ⟨r3, rfl, n3⟩
    have H3 := Lib.hid (H2.out.nx n3 (H2.out.ok.put M T))
    have DN := Lib.hid (Dn.of B2.out n3 (Below.refl _ _) (NRH.out.sc BAH.out.size n3.ch.size))
    clear n3 H2 d0 d1 d2
    go_wp2_with fail
    go_ret3
    --P0
    exact ⟨_, _, _, r3, _, rfl, H3.out, LN.out, DN.out, RR.out⟩
  · by_cases h1 : K = 1
    · subst h1
      go_wp2_with fail
      refine (rput_any A n c M T true m w1 H1.out.rd H1.out.len (by have := HN.out; omega) H1.out.cap).mono ?_
      rintro e w2 ⟨A2, n2, c2, r, m2, rfl, hp, hr⟩
      rw [← HM.out] at hp
      have LN : Hid (n2 ≤ n + 1) := by
        have h1 := pur_len hp
        have h2 := hr.len
        have h3 := H1.out.len
        rw [HM.out] at h1
        unfold Hid; omega
      have RR : Hid (Rr κ M T (flP X) m2) := .inr (.inl ⟨by have := HKK.out; omega, r, hp⟩)
      have B2 := Lib.hid (BAH.out.trans (hr.bl.mono BAH.out.size))
      have NRH := Lib.hid hr
      obtain ⟨rfl, rfl⟩ := front_ref hp
      have H2 := Lib.hid (H1.out.ref hr)
      have KB2 := Lib.hid (KB.out.below hr.bl)
      clear hp hr H1 KB d0 d1 d2
      have d0 := KB2.out.d0
      have d1 := KB2.out.d1
      have d2 := KB2.out.d2
      go_wp2_with fail
      refine (front_any g rb X M T w2 H2.out.lf (fun p hp => by have := HSM.out p hp; omega)).mono ?_
      rintro e w3 ⟨r3, rfl, n3⟩
      have H3 := Lib.hid (H2.out.nx n3 (H2.out.ok.front M T))
      have DN := Lib.hid (Dn.of B2.out n3 (Below.refl _ _) (NRH.out.sc BAH.out.size n3.ch.size))
      clear n3 H2 d0 d1 d2
      go_wp2_with fail
      go_ret3
      --P1
      exact ⟨_, _, _, r3, _, rfl, H3.out, LN.out, DN.out, RR.out⟩
    · have k0 : (K == 0) = false := by rw [beq_eq_false_iff_ne]; exact h0
      have k1 : (K == 1) = false := by rw [beq_eq_false_iff_ne]; exact h1
      by_cases h2 : K = 2
      · subst h2
        go_wp2_with fail
        refine (take_any g rb X w1 H1.out.lf (fun p hp => by have := HSM.out p hp; omega)).mono ?_
        rintro e w2 ⟨x, ok, X2, rfl, tk, n2⟩
        have TR := take_ref H1.out.ok tk
        rcases TR with ⟨hnil, rfl, rfl, rfl⟩ | ⟨y, hcons, rfl, rfl, hok, _⟩
        · have H2 := Lib.hid (H1.out.nx n2 H1.out.ok)
          have DN := Lib.hid (Dn.of (A := A) (A' := A) BAH.out n2 (Below.refl _ _) Sc.same)
          have RR : Hid (Rr κ M T (flP X2) (flP X2)) := .inr (.inr (.inl ⟨by have := HKK.out; omega, .inl ⟨hnil, hnil⟩⟩))
          have hn0 : n = 0 := by have := H1.out.len; rw [← HM.out, hnil] at this; simpa using this.symm
          subst hn0
          clear tk n2 H1 KB d0 d1 d2 hnil
          go_wp2_with fail
          go_ret3
          --T0
          exact ⟨_, _, _, rb, X2, rfl, by rw [HM.out]; exact H2.out, by omega, DN.out, RR.out⟩
        · have H2 := Lib.hid (H1.out.nx n2 hok)
          rw [← HM.out, hcons] at H2
          have hnp : Hid (n = (flP X2).length + 1) := by have := H2.out.len; simp at this; unfold Hid; omega
          have hn0 : ¬ (n : Int) = 0 := by have := hnp.out; omega
          have hn0B : ((n : Int) == 0) = false := by rw [beq_eq_false_iff_ne]; exact hn0
          obtain ⟨b, off, rfl, hb, _, hcc⟩ := place_p H2.out.rd (by have := hnp.out; omega)
          obtain ⟨e0, e1⟩ := hcc 0 (by have := hnp.out; omega)
          have e0 : w2.cell? ⟨b, off, none⟩ = some (.int .i64 y.1) := by simpa using e0
          obtain ⟨A2, hA2⟩ : ∃ A2, (if c = 1 then some (⟨b, off, none⟩ : Addr) else some ⟨b, off + 2, none⟩) = A2 := ⟨_, rfl⟩
          have DN : Hid (Dn w w2.drew g rb rb (some ⟨b, off, none⟩) A2) := Dn.of BAH.out n2 (Below.refl _ _).drew (Sc.cut hA2)
          have RR : Hid (Rr κ M T (flP X) (flP X2)) := .inr (.inr (.inl ⟨by have := HKK.out; omega, .inr ⟨y, hcons⟩⟩))
          have H3 : Hid (DS w0 w2 g rb X2 A2 (n - 1) (c - 1) (flP X2)) := H2.out.cut1 (by rw [← hA2]; simp [Addr.add_lit])
          have hn1 : (1 : Int) ≤ (n : Int) := by have := hnp.out; omega
          have hnc : (n : Int) ≤ (c : Int) := by have := H2.out.cap; omega
          have hn2 : (0 : Int) < (n : Int) := by omega
          have hyy : (y.1 == y.1) = true := by simp
          have hn3 : 0 < n := by omega
          clear tk n2 H1 KB d0 d1 d2 hcons hcc e1 hb
          go_wp2_with fail
          --T1
          refine wp_region_held_drew (S := (fun w' => Below w2.heap.size w2 w' ∧ w'.cell? ⟨b, off, none⟩ = some (.int .i64 y.1))) (by kernel_rfl) ?_ (fun hHeld => ?_)
          · exact ⟨(Below.refl _ _).drew, e0⟩
          refine takeD (i := 0) (d := some 74) (v := ?_) _ rfl rfl (by kernel_rfl) (by kernel_rfl) (by kernel_rfl) (fun _ _ _ h => h) (by rfl) ?_ (by assumption) ?_
          rotate_left
          · (intro w hSw; (try dsimp only at hSw); go_simp) <;> with_reducible rfl
          try simp only [Act.put, List.setIfInBounds_toArray, List.set_cons_zero, List.set_cons_succ]
          refine takeD (i := 1) (d := some 75) (v := ?_) _ rfl rfl (by kernel_rfl) (by kernel_rfl) (by kernel_rfl) (fun _ _ _ h => h) (by rfl) ?_ (by assumption) ?_
          rotate_left
          · (intro w hSw; (try dsimp only at hSw); go_simp) <;> with_reducible rfl
          try simp only [Act.put, List.setIfInBounds_toArray, List.set_cons_zero, List.set_cons_succ]
          refine takeD (i := 2) (d := some 76) (v := ?_) _ rfl rfl (by kernel_rfl) (by kernel_rfl) (by kernel_rfl) (fun _ _ _ h => h) (by rfl) ?_ (by assumption) ?_
          rotate_left
          · (intro w hSw; (try dsimp only at hSw); go_simp) <;> with_reducible rfl
          try simp only [Act.put, List.setIfInBounds_toArray, List.set_cons_zero, List.set_cons_succ]
          refine takeD (i := 3) (d := some 77) (v := ?_) _ rfl rfl (by kernel_rfl) (by kernel_rfl) (by kernel_rfl) (fun _ _ _ h => h) (by rfl) ?_ (by assumption) ?_
          rotate_left
          · (intro w hSw; (try dsimp only at hSw); go_simp) <;> with_reducible rfl
          try simp only [Act.put, List.setIfInBounds_toArray, List.set_cons_zero, List.set_cons_succ]
          refine takeD (i := 4) (d := some 78) (v := ?_) _ rfl rfl (by kernel_rfl) (by kernel_rfl) (by kernel_rfl) (fun _ _ _ h => h) (by rfl) ?_ (by assumption) ?_
          rotate_left
          · (intro w hSw; (try dsimp only at hSw); go_simp) <;> with_reducible rfl
          try simp only [Act.put, List.setIfInBounds_toArray, List.set_cons_zero, List.set_cons_succ]
          refine takeD (i := 5) (d := some 79) (v := ?_) _ rfl rfl (by kernel_rfl) (by kernel_rfl) (by kernel_rfl) (fun _ _ _ h => h) (by rfl) ?_ (by assumption) ?_
          rotate_left
          · (intro w hSw; (try dsimp only at hSw); go_simp) <;> with_reducible rfl
          try simp only [Act.put, List.setIfInBounds_toArray, List.set_cons_zero, List.set_cons_succ]
          refine takeD (i := 6) (d := some 80) (v := ?_) _ rfl rfl (by kernel_rfl) (by kernel_rfl) (by kernel_rfl) (fun _ _ _ h => h) (by rfl) ?_ (by assumption) ?_
          rotate_left
          · (intro w hSw; (try dsimp only at hSw); go_simp) <;> with_reducible rfl
          try simp only [Act.put, List.setIfInBounds_toArray, List.set_cons_zero, List.set_cons_succ]
          refine takeD (i := 7) (d := some 81) (v := ?_) _ rfl rfl (by kernel_rfl) (by kernel_rfl) (by kernel_rfl) (fun _ _ _ h => h) (by rfl) ?_ (by assumption) ?_
          rotate_left
          · (intro w hSw; (try dsimp only at hSw); go_simp) <;> with_reducible rfl
          try simp only [Act.put, List.setIfInBounds_toArray, List.set_cons_zero, List.set_cons_succ]
          refine takeD (i := 8) (d := some 82) (v := ?_) _ rfl rfl (by kernel_rfl) (by kernel_rfl) (by kernel_rfl) (fun _ _ _ h => h) (by rfl) ?_ (by assumption) ?_
          rotate_left
          · (intro w hSw; (try dsimp only at hSw); go_simp) <;> with_reducible rfl
          try simp only [Act.put, List.setIfInBounds_toArray, List.set_cons_zero, List.set_cons_succ]
          refine takeD (i := 9) (d := some 83) (v := ?_) _ rfl rfl (by kernel_rfl) (by kernel_rfl) (by kernel_rfl) (fun _ _ _ h => h) (by rfl) ?_ (by assumption) ?_
          rotate_left
          · (intro w hSw; (try dsimp only at hSw); go_simp) <;> with_reducible rfl
          try simp only [Act.put, List.setIfInBounds_toArray, List.set_cons_zero, List.set_cons_succ]
          refine takeD (i := 10) (d := some 84) (v := ?_) _ rfl rfl (by kernel_rfl) (by kernel_rfl) (by kernel_rfl) (fun _ _ _ h => h) (by rfl) ?_ (by assumption) ?_
          rotate_left
          · (intro w hSw; (try dsimp only at hSw); go_simp) <;> with_reducible rfl
          try simp only [Act.put, List.setIfInBounds_toArray, List.set_cons_zero, List.set_cons_succ]
          refine takeD (i := 11) (d := some 85) (v := ?_) _ rfl rfl (by kernel_rfl) (by kernel_rfl) (by kernel_rfl) (fun _ _ _ h => h) (by rfl) ?_ (by assumption) ?_
          rotate_left
          · (intro w hSw; (try dsimp only at hSw); go_simp) <;> with_reducible rfl
          try simp only [Act.put, List.setIfInBounds_toArray, List.set_cons_zero, List.set_cons_succ]
          refine takeD (i := 12) (d := some 6) (v := ?_) _ rfl rfl (by kernel_rfl) (by kernel_rfl) (by kernel_rfl) (fun _ _ _ h => h) (by rfl) ?_ (by assumption) ?_
          rotate_left
          · (intro w hSw; (try dsimp only at hSw); go_simp) <;> with_reducible rfl
          try simp only [Act.put, List.setIfInBounds_toArray, List.set_cons_zero, List.set_cons_succ]
          refine takeD (i := 13) (d := some 7) (v := ?_) _ rfl rfl (by kernel_rfl) (by kernel_rfl) (by kernel_rfl) (fun _ _ _ h => h) (by rfl) ?_ (by assumption) ?_
          rotate_left
          · (intro w hSw; (try dsimp only at hSw); go_simp) <;> with_reducible rfl
          try simp only [Act.put, List.setIfInBounds_toArray, List.set_cons_zero, List.set_cons_succ]
          refine takeD (i := 14) (d := some 8) (v := ?_) _ rfl rfl (by kernel_rfl) (by kernel_rfl) (by kernel_rfl) (fun _ _ _ h => h) (by rfl) ?_ (by assumption) ?_
          rotate_left
          · (intro w hSw; (try dsimp only at hSw); go_simp) <;> with_reducible rfl
          try simp only [Act.put, List.setIfInBounds_toArray, List.set_cons_zero, List.set_cons_succ]
          refine wpAnyH_done (by kernel_rfl) ?_ _
          clear hHeld
          go_wp2_with fail
          go_ret3
          exact ⟨_, _, _, rb, X2, rfl, H3.out.below (Below.refl _ _).drew, by omega, DN.out, RR.out⟩
      · have k2 : (K == 2) = false := by rw [beq_eq_false_iff_ne]; exact h2
        by_cases h3 : K = 3
        · subst h3
          go_wp2_with fail
          refine (rdrop_any A n c M m w1 H1.out.rd H1.out.len (by have := HN.out; omega) H1.out.cap).mono ?_
          rintro e w2 ⟨A2, n2, c2, ok, m2, rfl, hd, hr⟩
          rw [← HM.out] at hd
          have LN : Hid (n2 ≤ n) := by
            have h1 := dpr_len hd
            have h2 := hr.len
            have h3 := H1.out.len
            rw [HM.out] at h1
            unfold Hid; omega
          have HD := Lib.hid hd
          have B2 := Lib.hid (BAH.out.trans (hr.bl.mono BAH.out.size))
          have NRH := Lib.hid hr
          have H2 := Lib.hid (H1.out.ref hr)
          have KB2 := Lib.hid (KB.out.below hr.bl)
          clear hd hr H1 KB d0 d1 d2
          have d0 := KB2.out.d0
          have d1 := KB2.out.d1
          have d2 := KB2.out.d2
          go_wp2_with fail
          refine (drop_any g rb X M w2 H2.out.lf (fun p hp => by have := HSM.out p hp; omega)).mono ?_
          rintro e w3 ⟨ok3, X3, rfl, hdp, n3⟩
          have RR : Hid (Rr κ M T (flP X) m2) := .inr (.inr (.inr (.inl ⟨by have := HKK.out; omega, ok, HD.out⟩)))
          obtain ⟨rfl, rfl, hok, _⟩ := drop_ref H2.out.ok HD.out hdp
          have H3 := Lib.hid (H2.out.nx n3 hok)
          have DN := Lib.hid (Dn.of B2.out n3 (Below.refl _ _) (NRH.out.sc BAH.out.size n3.ch.size))
          have hoo : (ok3 == ok3) = true := by simp
          clear n3 H2 d0 d1 d2 hdp hok HD
          go_wp2_with fail
          go_ret3
          --D
          exact ⟨_, _, _, rb, X3, rfl, H3.out, by have := LN.out; omega, DN.out, RR.out⟩
        · have k3 : (K == 3) = false := by rw [beq_eq_false_iff_ne]; exact h3
          by_cases h4 : K = 4
          · subst h4
            go_wp2_with fail
            refine (rchange_any A n c M T m w1 H1.out.rd H1.out.len (by have := HN.out; omega) H1.out.cap).mono ?_
            rintro e w2 ⟨A2, n2, c2, ok, m2, rfl, hd, hr⟩
            rw [← HM.out] at hd
            have LN : Hid (n2 ≤ n + 1) := by
              have h1 := chr_len hd
              have h2 := hr.len
              have h3 := H1.out.len
              rw [HM.out] at h1
              unfold Hid; omega
            have HD := Lib.hid hd
            have B2 := Lib.hid (BAH.out.trans (hr.bl.mono BAH.out.size))
            have NRH := Lib.hid hr
            have H2 := Lib.hid (H1.out.ref hr)
            have KB2 := Lib.hid (KB.out.below hr.bl)
            clear hd hr H1 KB d0 d1 d2
            have d0 := KB2.out.d0
            have d1 := KB2.out.d1
            have d2 := KB2.out.d2
            go_wp2_with fail
            refine (change_any g rb X M T w2 H2.out.lf (fun p hp => by have := HSM.out p hp; omega)).mono ?_
            rintro e w3 ⟨ok3, X3, r3, rfl, hdp, n3⟩
            have RR : Hid (Rr κ M T (flP X) m2) := .inr (.inr (.inr (.inr ⟨by have := HKK.out; omega, ok, HD.out⟩)))
            obtain ⟨rfl, rfl, hok, _⟩ := change_ref H2.out.ok HD.out hdp
            have H3 := Lib.hid (H2.out.nx n3 hok)
            have DN := Lib.hid (Dn.of B2.out n3 (Below.refl _ _) (NRH.out.sc BAH.out.size n3.ch.size))
            have hoo : (ok3 == ok3) = true := by simp
            clear n3 H2 d0 d1 d2 hdp hok HD
            go_wp2_with fail
            go_ret3
            --C
            exact ⟨_, _, _, r3, X3, rfl, H3.out, LN.out, DN.out, RR.out⟩
          · have := HKK.out; omega
end Go.Proofs.Ytbkjcjkbicaibaa
