/-
  An act on a list and on the reference's. Each statement bears its own conditions.
-/
import Derived.Test.YtbkjcjkbicaibaaRModel
namespace Go.Proofs.Ytbkjcjkbicaibaa
open Go.RowKit
set_option linter.unusedVariables false
set_option linter.unusedSimpArgs false
theorem Reads.ch {w w' : World} {B n g : Nat} {rb : Nat → Nat} {A : Option Addr} {xs : List Value} (h : Reads w B 2 A n xs) (c : ChL g rb w w') (hB : B ≤ w.heap.size) (ha : ∀ ad, A = some ad → ad.block ≠ g ∧ ∀ p, p < 64 → ad.block ≠ rb p) : Reads w' B 2 A n xs := by
  refine ⟨h.1, fun hn => ?_⟩
  obtain ⟨ad, e, hb, hc⟩ := h.2 hn
  refine ⟨ad, e, hb, fun j u hu => (World.cell?_of_block (a := ad.add j) ?_).trans (hc j u hu)⟩
  rw [block_of_add]
  exact c.block _ (by omega) (ha ad e).1 (ha ad e).2
/-- A list, and a slice of the reference's. -/
structure DS (w0 w : World) (g : Nat) (rb : Nat → Nat) (X : Nat → List Int) (A : Option Addr) (n c : Nat) (m : List (Int × Int)) : Prop where
  lf : LF w g rb X
  ok : Okk X
  own : Own w0.heap.size g rb
  rd : Reads w w.heap.size 2 A n (P2 m)
  len : m.length = n
  cap : n ≤ c
  away : ∀ ad, A = some ad → ad.block ≠ g ∧ (∀ p, p < 64 → ad.block ≠ rb p) ∧ ad.block < w.heap.size
  bel : Below w0.heap.size w0 w
section
variable {w0 w w' : World} {g n c n' c' g' : Nat} {rb rb' : Nat → Nat} {X X' : Nat → List Int} {A A' : Option Addr} {m m' : List (Int × Int)}
theorem DS.below (h : DS w0 w g rb X A n c m) (b : Below w.heap.size w w') : DS w0 w' g rb X A n c m :=
  ⟨h.lf.below b, h.ok, h.own, (h.rd.below b).more b.size, h.len, h.cap, fun ad e => ⟨(h.away ad e).1, (h.away ad e).2.1, Nat.lt_of_lt_of_le (h.away ad e).2.2 b.size⟩, h.bel.trans (b.mono h.bel.size)⟩
theorem DS.nx (h : DS w0 w g rb X A n c m) (x : Nx w w' g rb rb' X') (ok : Okk X') : DS w0 w' g rb' X' A n c m :=
  ⟨x.lf, ok, x.own h.own h.bel.size, (h.rd.ch x.ch (Nat.le_refl _) (fun ad e => ⟨(h.away ad e).1, (h.away ad e).2.1⟩)).more x.ch.size, h.len, h.cap, fun ad e => ⟨(h.away ad e).1, fun p hp => by
    have := (h.away ad e).2.2
    rcases x.fr p hp with e1 | e1
    · rw [e1]; exact (h.away ad e).2.1 p hp
    · omega, Nat.lt_of_lt_of_le (h.away ad e).2.2 x.ch.size⟩, h.bel.trans (x.below h.own h.bel.size)⟩
theorem DS.ref (h : DS w0 w g rb X A n c m) (r : NR w w' A A' n' c' m') : DS w0 w' g rb X A' n' c' m' := by
  have hl := h.lf.lt
  refine ⟨h.lf.below r.bl, h.ok, h.own, r.rd, r.len, r.cap, fun ad e => ?_, h.bel.trans (r.bl.mono h.bel.size)⟩
  rcases r.fr with f | f
  · rw [f] at e
    exact ⟨(h.away ad e).1, (h.away ad e).2.1, Nat.lt_of_lt_of_le (h.away ad e).2.2 r.bl.size⟩
  · have := f ad e
    exact ⟨by omega, fun p hp => by have := h.lf.rlt hp; omega, this.2⟩
theorem DS.copy (h : DS w0 w g rb X A n c m) (l : LF w' g' rb' X) (o : Own w.heap.size g' rb') (b : Below w.heap.size w w') : DS w0 w' g' rb' X A n c m :=
  ⟨l, h.ok, ⟨Nat.le_trans h.bel.size o.1, fun p hp => Nat.le_trans h.bel.size (o.2 p hp)⟩, (h.rd.below b).more b.size, h.len, h.cap, fun ad e => by
    have := (h.away ad e).2.2
    exact ⟨by have := o.1; omega, fun p hp => by have := o.2 p hp; omega, Nat.lt_of_lt_of_le this b.size⟩, h.bel.trans (b.mono h.bel.size)⟩
theorem DS.other {r2 : Nat → Nat} {L2 : Nat → List Int} (h : DS w0 w g' rb' X' A n c m) (k : DS w0 w g rb X A n c m) (x : Nx w w' g rb r2 L2) (a : Ap g' rb' g rb) : DS w0 w' g' rb' X' A n c m :=
  ⟨h.lf.apart x.ch a, h.ok, h.own, (h.rd.ch x.ch (Nat.le_refl _) (fun ad e => ⟨(k.away ad e).1, (k.away ad e).2.1⟩)).more x.ch.size, h.len, h.cap, fun ad e => ⟨(h.away ad e).1, (h.away ad e).2.1, Nat.lt_of_lt_of_le (h.away ad e).2.2 x.ch.size⟩, h.bel.trans (x.below k.own h.bel.size)⟩
theorem DS.cut1 {y : Int × Int} (h : DS w0 w g rb X A n c (y :: m')) {A2 : Option Addr} (hA : (if c = 1 then A else A.map (·.add (1 * 2))) = A2) : DS w0 w g rb X A2 (n - 1) (c - 1) m' := by
  have hn : n = m'.length + 1 := by have := h.len; simp at this; omega
  have hc := h.cap
  have := h.rd.cut (k := 1) (cap := c) (by omega) hc
  rw [P2_drop] at this
  rw [hA] at this
  refine ⟨h.lf, h.ok, h.own, this, by omega, by omega, fun ad e => ?_, h.bel⟩
  rw [← hA] at e
  split at e
  · exact h.away ad e
  · cases hA1 : A with
    | none => rw [hA1] at e; cases e
    | some a =>
      rw [hA1] at e
      injection e with e
      rw [← e, block_of_add]
      exact h.away a hA1
end
/-- The act's block. -/
structure Kb (w : World) (ab : Nat) (K M T : Int) : Prop where
  d0 : w.cell? ⟨ab, 0, none⟩ = some (.int .i64 K)
  d1 : w.cell? ⟨ab, 1, none⟩ = some (.int .i64 M)
  d2 : w.cell? ⟨ab, 2, none⟩ = some (.int .i64 T)
theorem Kb.below {w w' : World} {ab : Nat} {K M T : Int} (h : Kb w ab K M T) (b : Below w.heap.size w w') : Kb w' ab K M T := ⟨cell_later b h.d0, cell_later b h.d1, cell_later b h.d2⟩
theorem Kb.new (w : World) (K M T : Int) : Kb (w.alloc (.cells #[.int .i64 K, .int .i64 M, .int .i64 T] 29)) w.heap.size K M T := ⟨by rw [World.cell?_alloc_new]; rfl, by rw [World.cell?_alloc_new]; rfl, by rw [World.cell?_alloc_new]; rfl⟩
theorem Kb.nx {w w' : World} {ab g : Nat} {rb rb' : Nat → Nat} {X' : Nat → List Int} {K M T : Int} (h : Kb w ab K M T) (x : Nx w w' g rb rb' X') (h1 : ab ≠ g) (h2 : ∀ p, p < 64 → ab ≠ rb p) : Kb w' ab K M T := by
  have hb := x.ch.block ab (World.block_lt_of_cell? _ _ h.d0) h1 h2
  exact ⟨(World.cell?_of_block (a := ⟨ab, 0, none⟩) hb).trans h.d0, (World.cell?_of_block (a := ⟨ab, 1, none⟩) hb).trans h.d1, (World.cell?_of_block (a := ⟨ab, 2, none⟩) hb).trans h.d2⟩
set_option maxRecDepth 100000 in
set_option maxHeartbeats 8000000 in
theorem do_any (g : Nat) (rb : Nat → Nat) (X : Nat → List Int) (A : Option Addr) (n c : Nat) (K M T : Int) (w0 w : World) (h : DS w0 w g rb X A n c (flP X)) (hn : n ≤ 900) :
    Calls Try.prog 10 #[.pointer (some ⟨g, 0, none⟩), .slice A n c, .agg #[.int .i64 K, .int .i64 M, .int .i64 T]] w fun e w' => ∃ g' A' n' c' rb' X', e = .returned (.tuple #[.pointer (some ⟨g', 0, none⟩), .slice A' n' c', .bool true]) ∧ DS w0 w' g' rb' X' A' n' c' (flP X') ∧ n' ≤ n + 1 := by
  have he : ∀ (x : Nat) (w : World), (binOp .eql 23 (.pointer (some ⟨x, 0, none⟩)) (.pointer none)).run Try.prog w = .ok (.bool false) w := fun _ _ => rfl
  have HN : Hid (n ≤ 900) := hn
  have HSM : Hid (∀ p, p < 64 → (X p).length ≤ 900) := fun p hp => by
    have := line_le X hp
    have := h.len
    omega
  have BA : Below w.heap.size w (w.alloc (.cells #[.int .i64 K, .int .i64 M, .int .i64 T] 29)) := (Below.refl _ _).alloc (Nat.le_refl _) _
  have H1 := Lib.hid (h.below BA)
  have KB := Lib.hid (Kb.new w K M T)
  have NAB : Hid (w.heap.size ≠ g ∧ ∀ p, p < 64 → w.heap.size ≠ rb p) := ⟨by have := h.lf.lt; omega, fun p hp => by have := h.lf.rlt hp; omega⟩
  obtain ⟨m, hm⟩ : ∃ m, flP X = m := ⟨_, rfl⟩
  rw [hm] at H1
  have HM := Lib.hid hm
  clear h hn BA hm
  obtain ⟨ab, hab⟩ : ∃ ab, w.heap.size = ab := ⟨_, rfl⟩
  obtain ⟨w1, hw1⟩ : ∃ w1, w.alloc (.cells #[.int .i64 K, .int .i64 M, .int .i64 T] 29) = w1 := ⟨_, rfl⟩
  simp only [hw1] at H1 KB
  simp only [hab] at NAB KB
  have d0 := KB.out.d0
  have d1 := KB.out.d1
  have d2 := KB.out.d2
  go_enter Try.func10, Try.ntmps10
  by_cases h0 : K = 0
  · subst h0
    go_wp2_with fail
    refine (rput_any A n c M T false m w1 H1.out.rd H1.out.len (by have := HN.out; omega) H1.out.cap).mono ?_
    rintro e w2 ⟨A2, n2, c2, r, m2, rfl, hp, hr⟩
    rw [← HM.out] at hp
    have LN : Hid (n2 ≤ n + 1) := by
      have h1 := pur_len hp
      have h2 := hr.len
      have h3 := H1.out.len
      rw [HM.out] at h1
      unfold Hid; omega
    obtain ⟨rfl, rfl⟩ := put_ref hp
    have H2 := Lib.hid (H1.out.ref hr)
    have KB2 := Lib.hid (KB.out.below hr.bl)
    clear hp hr H1 KB d0 d1 d2
    have d0 := KB2.out.d0
    have d1 := KB2.out.d1
    have d2 := KB2.out.d2
    go_wp2_with fail
    refine (put_any g rb X M T w2 H2.out.lf (fun p hp => by have := HSM.out p hp; omega)).mono ?_
    rintro e w3 ⟨r3, rfl, n3⟩
    have H3 := Lib.hid (H2.out.nx n3 (H2.out.ok.put M T))
    clear n3 H2 d0 d1 d2
    go_wp2_with fail
    go_ret3
    --P0
    exact ⟨_, _, _, _, r3, _, rfl, H3.out, LN.out⟩
  · by_cases h1 : K = 1
    · subst h1
      go_wp2_with fail
      refine (rput_any A n c M T true m w1 H1.out.rd H1.out.len (by have := HN.out; omega) H1.out.cap).mono ?_
      rintro e w2 ⟨A2, n2, c2, r, m2, rfl, hp, hr⟩
      rw [← HM.out] at hp
      have LN : Hid (n2 ≤ n + 1) := by
        have h1 := pur_len hp
        have h2 := hr.len
        have h3 := H1.out.len
        rw [HM.out] at h1
        unfold Hid; omega
      obtain ⟨rfl, rfl⟩ := front_ref hp
      have H2 := Lib.hid (H1.out.ref hr)
      have KB2 := Lib.hid (KB.out.below hr.bl)
      clear hp hr H1 KB d0 d1 d2
      have d0 := KB2.out.d0
      have d1 := KB2.out.d1
      have d2 := KB2.out.d2
      go_wp2_with fail
      refine (front_any g rb X M T w2 H2.out.lf (fun p hp => by have := HSM.out p hp; omega)).mono ?_
      rintro e w3 ⟨r3, rfl, n3⟩
      have H3 := Lib.hid (H2.out.nx n3 (H2.out.ok.front M T))
      clear n3 H2 d0 d1 d2
      go_wp2_with fail
      go_ret3
      --P1
      exact ⟨_, _, _, _, r3, _, rfl, H3.out, LN.out⟩
    · have k0 : (K == 0) = false := by rw [beq_eq_false_iff_ne]; exact h0
      have k1 : (K == 1) = false := by rw [beq_eq_false_iff_ne]; exact h1
      by_cases h2 : K = 2
      · subst h2
        go_wp2_with fail
        refine (take_any g rb X w1 H1.out.lf (fun p hp => by have := HSM.out p hp; omega)).mono ?_
        rintro e w2 ⟨x, ok, X2, rfl, tk, n2⟩
        have TR := take_ref H1.out.ok tk
        rcases TR with ⟨hnil, rfl, rfl, rfl⟩ | ⟨y, hcons, rfl, rfl, hok, _⟩
        · have H2 := Lib.hid (H1.out.nx n2 H1.out.ok)
          have hn0 : n = 0 := by have := H1.out.len; rw [← HM.out, hnil] at this; simpa using this.symm
          subst hn0
          clear tk n2 H1 KB d0 d1 d2 hnil
          go_wp2_with fail
          go_ret3
          --T0
          exact ⟨_, _, _, _, rb, X2, rfl, by rw [HM.out]; exact H2.out, by omega⟩
        · have H2 := Lib.hid (H1.out.nx n2 hok)
          rw [← HM.out, hcons] at H2
          have hnp : Hid (n = (flP X2).length + 1) := by have := H2.out.len; simp at this; unfold Hid; omega
          have hn0 : ¬ (n : Int) = 0 := by have := hnp.out; omega
          have hn0B : ((n : Int) == 0) = false := by rw [beq_eq_false_iff_ne]; exact hn0
          obtain ⟨b, off, rfl, hb, _, hcc⟩ := place_p H2.out.rd (by have := hnp.out; omega)
          obtain ⟨e0, e1⟩ := hcc 0 (by have := hnp.out; omega)
          have e0 : w2.cell? ⟨b, off, none⟩ = some (.int .i64 y.1) := by simpa using e0
          obtain ⟨A2, hA2⟩ : ∃ A2, (if c = 1 then some (⟨b, off, none⟩ : Addr) else some ⟨b, off + 2, none⟩) = A2 := ⟨_, rfl⟩
          have H3 : Hid (DS w0 w2 g rb X2 A2 (n - 1) (c - 1) (flP X2)) := H2.out.cut1 (by rw [← hA2]; simp [Addr.add_lit])
          have hn1 : (1 : Int) ≤ (n : Int) := by have := hnp.out; omega
          have hnc : (n : Int) ≤ (c : Int) := by have := H2.out.cap; omega
          have hn2 : (0 : Int) < (n : Int) := by omega
          have hyy : (y.1 == y.1) = true := by simp
          have hn3 : 0 < n := by omega
          clear tk n2 H1 KB d0 d1 d2 hcons hcc e1 hb
          go_wp2_with fail
          --T1
          refine wp_region_held_drew (S := (fun w' => Below w2.heap.size w2 w' ∧ w'.cell? ⟨b, off, none⟩ = some (.int .i64 y.1))) (by kernel_rfl) ?_ (fun hHeld => ?_)
          · exact ⟨(Below.refl _ _).drew, e0⟩
          refine takeD (i := 0) (d := some 74) (v := ?_) _ rfl rfl (by kernel_rfl) (by kernel_rfl) (by kernel_rfl) (fun _ _ _ h => h) (by rfl) ?_ (by assumption) ?_
          rotate_left
          · (intro w hSw; (try dsimp only at hSw); go_simp) <;> with_reducible rfl
          try simp only [Act.put, List.setIfInBounds_toArray, List.set_cons_zero, List.set_cons_succ]
          refine takeD (i := 1) (d := some 75) (v := ?_) _ rfl rfl (by kernel_rfl) (by kernel_rfl) (by kernel_rfl) (fun _ _ _ h => h) (by rfl) ?_ (by assumption) ?_
          rotate_left
          · (intro w hSw; (try dsimp only at hSw); go_simp) <;> with_reducible rfl
          try simp only [Act.put, List.setIfInBounds_toArray, List.set_cons_zero, List.set_cons_succ]
          refine takeD (i := 2) (d := some 76) (v := ?_) _ rfl rfl (by kernel_rfl) (by kernel_rfl) (by kernel_rfl) (fun _ _ _ h => h) (by rfl) ?_ (by assumption) ?_
          rotate_left
          · (intro w hSw; (try dsimp only at hSw); go_simp) <;> with_reducible rfl
          try simp only [Act.put, List.setIfInBounds_toArray, List.set_cons_zero, List.set_cons_succ]
          refine takeD (i := 3) (d := some 77) (v := ?_) _ rfl rfl (by kernel_rfl) (by kernel_rfl) (by kernel_rfl) (fun _ _ _ h => h) (by rfl) ?_ (by assumption) ?_
          rotate_left
          · (intro w hSw; (try dsimp only at hSw); go_simp) <;> with_reducible rfl
          try simp only [Act.put, List.setIfInBounds_toArray, List.set_cons_zero, List.set_cons_succ]
          refine takeD (i := 4) (d := some 78) (v := ?_) _ rfl rfl (by kernel_rfl) (by kernel_rfl) (by kernel_rfl) (fun _ _ _ h => h) (by rfl) ?_ (by assumption) ?_
          rotate_left
          · (intro w hSw; (try dsimp only at hSw); go_simp) <;> with_reducible rfl
          try simp only [Act.put, List.setIfInBounds_toArray, List.set_cons_zero, List.set_cons_succ]
          refine takeD (i := 5) (d := some 79) (v := ?_) _ rfl rfl (by kernel_rfl) (by kernel_rfl) (by kernel_rfl) (fun _ _ _ h => h) (by rfl) ?_ (by assumption) ?_
          rotate_left
          · (intro w hSw; (try dsimp only at hSw); go_simp) <;> with_reducible rfl
          try simp only [Act.put, List.setIfInBounds_toArray, List.set_cons_zero, List.set_cons_succ]
          refine takeD (i := 6) (d := some 80) (v := ?_) _ rfl rfl (by kernel_rfl) (by kernel_rfl) (by kernel_rfl) (fun _ _ _ h => h) (by rfl) ?_ (by assumption) ?_
          rotate_left
          · (intro w hSw; (try dsimp only at hSw); go_simp) <;> with_reducible rfl
          try simp only [Act.put, List.setIfInBounds_toArray, List.set_cons_zero, List.set_cons_succ]
          refine takeD (i := 7) (d := some 81) (v := ?_) _ rfl rfl (by kernel_rfl) (by kernel_rfl) (by kernel_rfl) (fun _ _ _ h => h) (by rfl) ?_ (by assumption) ?_
          rotate_left
          · (intro w hSw; (try dsimp only at hSw); go_simp) <;> with_reducible rfl
          try simp only [Act.put, List.setIfInBounds_toArray, List.set_cons_zero, List.set_cons_succ]
          refine takeD (i := 8) (d := some 82) (v := ?_) _ rfl rfl (by kernel_rfl) (by kernel_rfl) (by kernel_rfl) (fun _ _ _ h => h) (by rfl) ?_ (by assumption) ?_
          rotate_left
          · (intro w hSw; (try dsimp only at hSw); go_simp) <;> with_reducible rfl
          try simp only [Act.put, List.setIfInBounds_toArray, List.set_cons_zero, List.set_cons_succ]
          refine takeD (i := 9) (d := some 83) (v := ?_) _ rfl rfl (by kernel_rfl) (by kernel_rfl) (by kernel_rfl) (fun _ _ _ h => h) (by rfl) ?_ (by assumption) ?_
          rotate_left
          · (intro w hSw; (try dsimp only at hSw); go_simp) <;> with_reducible rfl
          try simp only [Act.put, List.setIfInBounds_toArray, List.set_cons_zero, List.set_cons_succ]
          refine takeD (i := 10) (d := some 84) (v := ?_) _ rfl rfl (by kernel_rfl) (by kernel_rfl) (by kernel_rfl) (fun _ _ _ h => h) (by rfl) ?_ (by assumption) ?_
          rotate_left
          · (intro w hSw; (try dsimp only at hSw); go_simp) <;> with_reducible rfl
          try simp only [Act.put, List.setIfInBounds_toArray, List.set_cons_zero, List.set_cons_succ]
          refine takeD (i := 11) (d := some 85) (v := ?_) _ rfl rfl (by kernel_rfl) (by kernel_rfl) (by kernel_rfl) (fun _ _ _ h => h) (by rfl) ?_ (by assumption) ?_
          rotate_left
          · (intro w hSw; (try dsimp only at hSw); go_simp) <;> with_reducible rfl
          try simp only [Act.put, List.setIfInBounds_toArray, List.set_cons_zero, List.set_cons_succ]
          refine takeD (i := 12) (d := some 6) (v := ?_) _ rfl rfl (by kernel_rfl) (by kernel_rfl) (by kernel_rfl) (fun _ _ _ h => h) (by rfl) ?_ (by assumption) ?_
          rotate_left
          · (intro w hSw; (try dsimp only at hSw); go_simp) <;> with_reducible rfl
          try simp only [Act.put, List.setIfInBounds_toArray, List.set_cons_zero, List.set_cons_succ]
          refine takeD (i := 13) (d := some 7) (v := ?_) _ rfl rfl (by kernel_rfl) (by kernel_rfl) (by kernel_rfl) (fun _ _ _ h => h) (by rfl) ?_ (by assumption) ?_
          rotate_left
          · (intro w hSw; (try dsimp only at hSw); go_simp) <;> with_reducible rfl
          try simp only [Act.put, List.setIfInBounds_toArray, List.set_cons_zero, List.set_cons_succ]
          refine takeD (i := 14) (d := some 8) (v := ?_) _ rfl rfl (by kernel_rfl) (by kernel_rfl) (by kernel_rfl) (fun _ _ _ h => h) (by rfl) ?_ (by assumption) ?_
          rotate_left
          · (intro w hSw; (try dsimp only at hSw); go_simp) <;> with_reducible rfl
          try simp only [Act.put, List.setIfInBounds_toArray, List.set_cons_zero, List.set_cons_succ]
          refine wpAnyH_done (by kernel_rfl) ?_ _
          clear hHeld
          go_wp2_with fail
          go_ret3
          exact ⟨_, _, _, _, rb, X2, rfl, H3.out.below (Below.refl _ _).drew, by omega⟩
      · have k2 : (K == 2) = false := by rw [beq_eq_false_iff_ne]; exact h2
        by_cases h3 : K = 3
        · subst h3
          go_wp2_with fail
          refine (rdrop_any A n c M m w1 H1.out.rd H1.out.len (by have := HN.out; omega) H1.out.cap).mono ?_
          rintro e w2 ⟨A2, n2, c2, ok, m2, rfl, hd, hr⟩
          rw [← HM.out] at hd
          have LN : Hid (n2 ≤ n) := by
            have h1 := dpr_len hd
            have h2 := hr.len
            have h3 := H1.out.len
            rw [HM.out] at h1
            unfold Hid; omega
          have HD := Lib.hid hd
          have H2 := Lib.hid (H1.out.ref hr)
          have KB2 := Lib.hid (KB.out.below hr.bl)
          clear hd hr H1 KB d0 d1 d2
          have d0 := KB2.out.d0
          have d1 := KB2.out.d1
          have d2 := KB2.out.d2
          go_wp2_with fail
          refine (drop_any g rb X M w2 H2.out.lf (fun p hp => by have := HSM.out p hp; omega)).mono ?_
          rintro e w3 ⟨ok3, X3, rfl, hdp, n3⟩
          obtain ⟨rfl, rfl, hok, _⟩ := drop_ref H2.out.ok HD.out hdp
          have H3 := Lib.hid (H2.out.nx n3 hok)
          have hoo : (ok3 == ok3) = true := by simp
          clear n3 H2 d0 d1 d2 hdp hok HD
          go_wp2_with fail
          go_ret3
          --D
          exact ⟨_, _, _, _, rb, X3, rfl, H3.out, by have := LN.out; omega⟩
        · have k3 : (K == 3) = false := by rw [beq_eq_false_iff_ne]; exact h3
          by_cases h4 : K = 4
          · subst h4
            go_wp2_with fail
            refine (rchange_any A n c M T m w1 H1.out.rd H1.out.len (by have := HN.out; omega) H1.out.cap).mono ?_
            rintro e w2 ⟨A2, n2, c2, ok, m2, rfl, hd, hr⟩
            rw [← HM.out] at hd
            have LN : Hid (n2 ≤ n + 1) := by
              have h1 := chr_len hd
              have h2 := hr.len
              have h3 := H1.out.len
              rw [HM.out] at h1
              unfold Hid; omega
            have HD := Lib.hid hd
            have H2 := Lib.hid (H1.out.ref hr)
            have KB2 := Lib.hid (KB.out.below hr.bl)
            clear hd hr H1 KB d0 d1 d2
            have d0 := KB2.out.d0
            have d1 := KB2.out.d1
            have d2 := KB2.out.d2
            go_wp2_with fail
            refine (change_any g rb X M T w2 H2.out.lf (fun p hp => by have := HSM.out p hp; omega)).mono ?_
            rintro e w3 ⟨ok3, X3, r3, rfl, hdp, n3⟩
            obtain ⟨rfl, rfl, hok, _⟩ := change_ref H2.out.ok HD.out hdp
            have H3 := Lib.hid (H2.out.nx n3 hok)
            have hoo : (ok3 == ok3) = true := by simp
            clear n3 H2 d0 d1 d2 hdp hok HD
            go_wp2_with fail
            go_ret3
            --C
            exact ⟨_, _, _, _, r3, X3, rfl, H3.out, LN.out⟩
          · have k4 : (K == 4) = false := by rw [beq_eq_false_iff_ne]; exact h4
            by_cases h5 : K = 5
            · subst h5
              go_wp2_with fail
              refine (clone_l g rb X w1 H1.out.lf (fun p hp => by have := HSM.out p hp; omega)).mono ?_
              rintro e w2 ⟨gc, rc, rfl, lc, oc, b2⟩
              have H2 := Lib.hid (H1.out.below b2)
              have C2 := Lib.hid (H1.out.copy lc oc b2)
              have AP : Hid (Ap gc rc g rb) := by
                have h1 := H1.out.lf.lt
                have h2 := oc.1
                exact ⟨by omega, fun q hq => by have := H1.out.lf.rlt hq; omega, fun p hp => by have := oc.2 p hp; omega, fun p q hp hq => by have := oc.2 p hp; have := H1.out.lf.rlt hq; omega⟩
              have KB2 := Lib.hid (KB.out.below b2)
              have SM : Hid (Sm X) := fun p hp => by have := HSM.out p hp; omega
              have EQ : Hid (eqL X X = true) := decide_eq_true fun _ _ => rfl
              clear lc oc b2 H1 KB d0 d1 d2
              go_wp2_with fail
              refine (same_any g gc rb rc X X w2 H2.out.lf SM.out C2.out.lf SM.out).mono ?_
              rintro e w3 ⟨rfl, b3⟩
              rw [EQ.out]
              have H3 := Lib.hid (H2.out.below b3)
              have C3 := Lib.hid (C2.out.below b3)
              have KB3 := Lib.hid (KB2.out.below b3)
              clear b3 H2 C2 KB2
              go_wp2_with fail
              refine (same_any gc g rc rb X X w3 C3.out.lf SM.out H3.out.lf SM.out).mono ?_
              rintro e w4 ⟨rfl, b4⟩
              rw [EQ.out]
              have H4 := Lib.hid (H3.out.below b4)
              have C4 := Lib.hid (C3.out.below b4)
              have KB4 := Lib.hid (KB3.out.below b4)
              clear b4 H3 C3 KB3
              have d1 := KB4.out.d1
              go_wp2_with fail
              refine (put_any g rb X M 5 w4 H4.out.lf (fun p hp => by have := HSM.out p hp; omega)).mono ?_
              rintro e w5 ⟨r5, rfl, n5⟩
              have H5 := Lib.hid (H4.out.nx n5 (H4.out.ok.put M 5))
              have C5 := Lib.hid (C4.out.other H4.out n5 AP.out)
              have AP5 := Lib.hid (n5.apart C4.out.lf AP.out)
              have SM5 : Hid (Sm (putL X M 5)) := fun p hp => by
                have := HSM.out p hp
                unfold putL
                split
                · have h5 := HSM.out 5 (by omega)
                  rw [show (5 : Int).toNat = 5 from rfl]
                  by_cases e : p = 5
                  · rw [e, upd_same, List.length_append]; simp; omega
                  · rw [upd_other _ _ e]; omega
                · omega
              obtain ⟨z, hz⟩ : ∃ z, rfz X M 5 = z := ⟨_, rfl⟩
              rw [hz]
              obtain ⟨X5, hX5⟩ : ∃ X5, putL X M 5 = X5 := ⟨_, rfl⟩
              rw [hX5] at H5 SM5
              clear hz hX5 n5 H4 C4 d1
              go_wp2_with fail
              refine (take_any g r5 X5 w5 H5.out.lf SM5.out).mono ?_
              rintro e w6 ⟨x6, ok6, X6, rfl, tk6, n6⟩
              have C6 := Lib.hid (C5.out.other H5.out n6 AP5.out)
              clear tk6 n6 H5 C5
              go_wp2_with fail
              go_ret3
              --K
              exact ⟨_, _, _, _, rc, X, rfl, by rw [HM.out]; exact C6.out, by omega⟩
            · have k5 : (K == 5) = false := by rw [beq_eq_false_iff_ne]; exact h5
              go_wp2_with fail
              go_ret3
              --O
              exact ⟨_, _, _, _, rb, X, rfl, by rw [HM.out]; exact H1.out, by omega⟩
end Go.Proofs.Ytbkjcjkbicaibaa
