/-
  The walk of ReadyFalls. Each statement bears its own conditions.
-/
import Derived.Test.YtbkjcjkbicaibaaKnown
namespace Go.Proofs.Ytbkjcjkbicaibaa
open Go.RowKit
set_option linter.unusedVariables false
set_option linter.unusedSimpArgs false
def IsRow (k : IntKind) (w : World) (a : Option Addr) (len cap : Nat) (zs : List Int) : Prop :=
  (a = none ∧ len = 0 ∧ cap = 0 ∧ zs = []) ∨
  ∃ x, a = some x ∧ len ≤ cap ∧ cap ≤ maxLen ∧ zs.length = cap ∧ (∀ i, i < zs.length → w.cell? (x.add i) = some (.int k (zs.getD i 0))) ∧ ∀ n ∈ zs, (Lit.int k n).wf = true
theorem row_at {k : IntKind} {w : World} {a : Option Addr} {len cap : Nat} {zs : List Int} (h : IsRow k w a len cap zs) (hn : 0 < len) : ∃ b off, a = some ⟨b, off, none⟩ ∧ ∀ i, i < len → w.cell? ⟨b, off + i, none⟩ = some (.int k (zs.getD i 0)) ∧ (Lit.int k (zs.getD i 0)).wf = true := by
  rcases h with ⟨rfl, rfl, rfl, rfl⟩ | ⟨⟨b, off, spot⟩, rfl, h1, h2, h3, h4, h5⟩
  · omega
  · have e0 := h4 0 (by omega)
    have hs : spot = none := by simpa [Addr.add] using World.cell?_spot e0
    subst hs
    refine ⟨b, off, rfl, fun i hi => ⟨?_, ?_⟩⟩
    · have := h4 i (by omega)
      rwa [Addr.add_lit] at this
    · refine h5 _ ?_
      rw [List.getD_eq_getElem?_getD, List.getElem?_eq_getElem (show i < zs.length by omega)]
      exact List.getElem_mem _
/-- Bytes in memory. -/
def BytesAt (w : World) (a : Option Addr) (len : Nat) (y : Nat → Nat) : Prop := (∀ i, y i < 256) ∧ (0 < len → ∃ b off, a = some ⟨b, off, none⟩ ∧ ∀ i, i < len → w.cell? ⟨b, off + i, none⟩ = some (.int .u8 (y i : Int)))
theorem bytes_at {w : World} {a : Option Addr} {len cap : Nat} {zs : List Int} (h : IsRow .u8 w a len cap zs) : ∃ y, BytesAt w a len y := by
  refine ⟨fun i => if (zs.getD i 0).toNat < 256 then (zs.getD i 0).toNat else 0, fun i => ?_, fun hn => ?_⟩
  · dsimp only; split <;> omega
  · obtain ⟨b, off, ha, hc⟩ := row_at h hn
    refine ⟨b, off, ha, fun i hi => ?_⟩
    obtain ⟨c1, c2⟩ := hc i hi
    obtain ⟨x, hx⟩ : ∃ x, zs.getD i 0 = x := ⟨_, rfl⟩
    rw [hx] at c1 c2
    have e1 : IntKind.u8.min = 0 := rfl
    have e2 : IntKind.u8.max = 255 := rfl
    simp [Lit.wf] at c2
    dsimp only
    rw [c1, hx, if_pos (by omega)]
    congr 2; omega
theorem ln_upd (Ls : Nat → List Int) (p : Nat) (L : List Int) : ∀ k, ln (upd Ls p L) k + (if p < k then (Ls p).length else 0) = ln Ls k + (if p < k then L.length else 0) := by
  intro k
  induction k with
  | zero => simp [ln]
  | succ k ih =>
    simp only [ln]
    by_cases h1 : p < k
    · rw [if_pos h1, if_pos h1] at ih
      rw [if_pos (by omega), if_pos (by omega), upd_other _ _ (by omega)]
      omega
    · rw [if_neg h1, if_neg h1] at ih
      by_cases h2 : p = k
      · subst h2
        rw [if_pos (by omega), if_pos (by omega), upd_same]
        omega
      · rw [if_neg (by omega), if_neg (by omega), upd_other _ _ (by omega)]
        omega
theorem ln_upd64 (Ls : Nat → List Int) {p : Nat} (hp : p < 64) (L : List Int) : ln (upd Ls p L) 64 + (Ls p).length = ln Ls 64 + L.length := by
  have := ln_upd Ls p L 64
  rwa [if_pos hp, if_pos hp] at this
theorem len_le_ln (Ls : Nat → List Int) : ∀ k p, p < k → (Ls p).length ≤ ln Ls k := by
  intro k
  induction k with
  | zero => intro p hp; omega
  | succ k ih =>
    intro p hp
    simp only [ln]
    by_cases h : p = k
    · subst h; omega
    · have := ih p (by omega); omega
theorem ln_nil (k : Nat) : ln (fun _ => []) k = 0 := by
  induction k with
  | zero => rfl
  | succ k ih => simp [ln, ih]
theorem ln_empty {Ls : Nat → List Int} (h : EmL Ls) : ∀ k, k ≤ 64 → ln Ls k = 0 := by
  intro k
  induction k with
  | zero => intro _; rfl
  | succ k ih => intro hk; simp [ln, ih (by omega), h k (by omega)]
/-- The first k ids, each in its line. -/
structure In (f : Nat → Nat) (k : Nat) (Ls : Nat → List Int) : Prop where
  of : ∀ p : Nat, p < 64 → ∀ x ∈ Ls p, ∃ i : Nat, x = (i : Int) ∧ i < k ∧ f i = p
  inc : ∀ p : Nat, p < 64 → (Ls p).Pairwise (· < ·)
  all : ∀ i, i < k → (i : Int) ∈ Ls (f i)
  cnt : ln Ls 64 = k
theorem In.start (f : Nat → Nat) : In f 0 (fun _ => []) := ⟨fun _ _ x hx => (by cases hx), fun _ _ => List.Pairwise.nil, fun i hi => (by omega), ln_nil 64⟩
theorem In.refs {f : Nat → Nat} (hf : ∀ i, f i < 64) {k : Nat} {Ls : Nat → List Int} (h : In f k Ls) : rfz Ls (k : Int) (f k : Int) = 0 := by
  unfold rfz
  have hv : vld (f k : Int) = true := by unfold vld; have := hf k; exact decide_eq_true ⟨by omega, by omega⟩
  have hh : hasL Ls (k : Int) = false := hasL_not.2 fun p hp hm => by
    obtain ⟨i, hi, h1, _⟩ := h.of p hp _ hm
    omega
  rw [if_neg (by omega), if_neg (by rw [hv]; simp), if_neg (by rw [hh]; simp)]
theorem In.putL_eq {f : Nat → Nat} (hf : ∀ i, f i < 64) {k : Nat} {Ls : Nat → List Int} (h : In f k Ls) : putL Ls (k : Int) (f k : Int) = upd Ls (f k) (Ls (f k) ++ [(k : Int)]) := by
  unfold putL
  rw [if_pos (h.refs hf), Int.toNat_natCast]
theorem In.next {f : Nat → Nat} (hf : ∀ i, f i < 64) {k : Nat} {Ls : Nat → List Int} (h : In f k Ls) : In f (k + 1) (upd Ls (f k) (Ls (f k) ++ [(k : Int)])) := by
  refine ⟨fun p hp x hx => ?_, fun p hp => ?_, fun i hi => ?_, ?_⟩
  · by_cases hpe : p = f k
    · subst hpe
      rw [upd_same, List.mem_append] at hx
      rcases hx with hx | hx
      · obtain ⟨i, h1, h2, h3⟩ := h.of _ hp x hx
        exact ⟨i, h1, by omega, h3⟩
      · exact ⟨k, List.mem_singleton.1 hx, by omega, rfl⟩
    · rw [upd_other _ _ hpe] at hx
      obtain ⟨i, h1, h2, h3⟩ := h.of _ hp x hx
      exact ⟨i, h1, by omega, h3⟩
  · by_cases hpe : p = f k
    · subst hpe
      rw [upd_same]
      refine List.pairwise_append.2 ⟨h.inc _ hp, by simp, fun x hx y hy => ?_⟩
      obtain ⟨i, h1, h2, h3⟩ := h.of _ hp x hx
      have := List.mem_singleton.1 hy
      omega
    · rw [upd_other _ _ hpe]; exact h.inc p hp
  · by_cases hik : i = k
    · subst hik; rw [upd_same]; simp
    · have := h.all i (by omega)
      by_cases hpe : f i = f k
      · rw [hpe, upd_same, List.mem_append]; rw [hpe] at this; exact .inl this
      · rw [upd_other _ _ hpe]; exact this
  · have := ln_upd64 Ls (hf k) (Ls (f k) ++ [(k : Int)])
    rw [List.length_append, h.cnt] at this
    simp at this; omega
theorem In.again {f : Nat → Nat} (hf : ∀ i, f i < 64) {k : Nat} {Ls : Nat → List Int} (h : In f (k + 1) Ls) : rfz Ls (k : Int) 0 = 7 ∧ putL Ls (k : Int) 0 = Ls := by
  have h1 : rfz Ls (k : Int) 0 = 7 := by
    unfold rfz
    rw [if_neg (by omega), if_neg (by decide), if_pos (hasL_iff.2 ⟨f k, hf k, h.all k (by omega)⟩)]
  refine ⟨h1, ?_⟩
  unfold putL
  rw [h1]; rfl
theorem In.small {f : Nat → Nat} {k : Nat} {Ls : Nat → List Int} (h : In f k Ls) (hk : k ≤ 999) : ∀ p, p < 64 → (Ls p).length ≤ 999 := fun p hp => by
  have := len_le_ln Ls 64 p hp
  rw [h.cnt] at this; omega
/-- While ids are taken. -/
structure Fa (f : Nat → Nat) (n k : Nat) (last pri : Int) (Ls : Nat → List Int) : Prop where
  of : ∀ p : Nat, p < 64 → ∀ x ∈ Ls p, ∃ i : Nat, x = (i : Int) ∧ i < n ∧ f i = p
  inc : ∀ p : Nat, p < 64 → (Ls p).Pairwise (· < ·)
  top : ∀ p : Nat, p < 64 → Ls p ≠ [] → (p : Int) ≤ pri
  low : ∀ p : Nat, p < 64 → (p : Int) = pri → ∀ x ∈ Ls p, last < x
  cnt : ln Ls 64 + k = n
theorem In.fa {f : Nat → Nat} {n : Nat} {Ls : Nat → List Int} (h : In f n Ls) : Fa f n 0 (-1) 64 Ls :=
  ⟨h.of, h.inc, fun p hp _ => (by omega), fun p hp e => (by omega), h.cnt⟩
theorem Fa.take {f : Nat → Nat} {n k : Nat} {last pri x : Int} {ok : Bool} {Ls Ls' : Nat → List Int} (h : Fa f n k last pri Ls) (hk : k < n) (t : Tk Ls x ok Ls') :
    ok = true ∧ ∃ i p : Nat, x = (i : Int) ∧ i < n ∧ f i = p ∧ p < 64 ∧ (p : Int) ≤ pri ∧ ((p : Int) = pri → last < x) ∧ Fa f n (k + 1) x (p : Int) Ls' := by
  rcases t with ⟨p, L, ht, hl, rfl, rfl⟩ | ⟨he, rfl, rfl, rfl⟩
  · obtain ⟨i, h1, h2, h3⟩ := h.of p ht.lt x (by rw [hl]; simp)
    have hpw := h.inc p ht.lt
    rw [hl] at hpw
    refine ⟨rfl, i, p, h1, h2, h3, ht.lt, h.top p ht.lt ht.ne, fun e => h.low p ht.lt e x (by rw [hl]; simp), ⟨fun q hq y hy => ?_, fun q hq => ?_, fun q hq hne => ?_, fun q hq e y hy => ?_, ?_⟩⟩
    · by_cases e : q = p
      · subst e; rw [upd_same] at hy; exact h.of q hq y (by rw [hl]; exact List.mem_cons_of_mem _ hy)
      · rw [upd_other _ _ e] at hy; exact h.of q hq y hy
    · by_cases e : q = p
      · subst e; rw [upd_same]; exact (List.pairwise_cons.1 hpw).2
      · rw [upd_other _ _ e]; exact h.inc q hq
    · rcases Nat.lt_or_ge p q with e | e
      · rw [upd_other _ _ (by omega)] at hne
        exact absurd (ht.up q e hq) hne
      · omega
    · have e : q = p := by omega
      subst e
      rw [upd_same] at hy
      exact (List.pairwise_cons.1 hpw).1 y hy
    · have h4 := ln_upd64 Ls ht.lt L
      rw [hl] at h4
      have h5 := h.cnt
      simp at h4; omega
  · have := ln_empty he 64 (Nat.le_refl _)
    have := h.cnt
    omega
theorem Fa.done {f : Nat → Nat} {n : Nat} {last pri x : Int} {ok : Bool} {Ls Ls' : Nat → List Int} (h : Fa f n n last pri Ls) (t : Tk Ls x ok Ls') : ok = false ∧ Ls' = Ls ∧ ln Ls 64 = 0 := by
  have h0 : ln Ls 64 = 0 := by have := h.cnt; omega
  rcases t with ⟨p, L, ht, hl, rfl, rfl⟩ | ⟨he, rfl, rfl, rfl⟩
  · have := len_le_ln Ls 64 p ht.lt
    rw [hl] at this; simp at this; omega
  · exact ⟨rfl, rfl, h0⟩
theorem Fa.small {f : Nat → Nat} {n k : Nat} {last pri : Int} {Ls : Nat → List Int} (h : Fa f n k last pri Ls) (hn : n ≤ 999) : Sm Ls := fun p hp => by
  have := len_le_ln Ls 64 p hp
  have := h.cnt; omega
structure F1Rel (f : Nat → Nat) (n g : Nat) (w : World) (v : Value) (wr : World) : Prop where
  ex : ∃ (k : Nat) (rb : Nat → Nat) (Ls : Nat → List Int), k ≤ n ∧ v = .int .i64 (k : Int) ∧ LF wr g rb Ls ∧ In f k Ls ∧ Own w.heap.size g rb ∧ Below w.heap.size w wr
structure F2Rel (f : Nat → Nat) (n g : Nat) (w : World) (v6 v7 v : Value) (wr : World) : Prop where
  ex : ∃ (k : Nat) (last pri : Int) (rb : Nat → Nat) (Ls : Nat → List Int), k ≤ n ∧ v6 = .int .i64 last ∧ v7 = .int .i64 pri ∧ v = .int .i64 (k : Int) ∧ LF wr g rb Ls ∧ Fa f n k last pri Ls ∧ Own w.heap.size g rb ∧ Below w.heap.size w wr
set_option maxRecDepth 100000 in
set_option maxHeartbeats 8000000 in
theorem falls_core (a : Option Addr) (len cap : Nat) (y : Nat → Nat) (w : World) (h0 : BytesAt w a len y) :
    Calls Try.prog 4 #[.slice a len cap] w fun e w' => e = .returned (.bool true) ∧ Below w.heap.size w w' := by
  have H0 := Lib.hid h0
  clear h0
  have he : ∀ (x : Nat) (w : World), (binOp .eql 23 (.pointer (some ⟨x, 0, none⟩)) (.pointer none)).run Try.prog w = .ok (.bool false) w := fun _ _ => rfl
  go_enter Try.func4, Try.ntmps4
  go_wp2_with fail
  obtain ⟨g, hG⟩ : ∃ g, w.heap.size = g := ⟨_, rfl⟩
  have NW := Lib.hid (new_any w)
  have HG : Hid (w.heap.size ≤ g) := by unfold Hid; omega
  rw [hG] at NW
  refine NW.out.mono ?_
  rintro e w1 ⟨rfl, l1, b1⟩
  obtain ⟨r1, hr1⟩ : ∃ r1 : Nat → Nat, (fun _ : Nat => g) = r1 := ⟨_, rfl⟩
  have O1 : Hid (Own w.heap.size g r1) := by rw [← hr1]; exact ⟨HG.out, fun _ _ => HG.out⟩
  rw [hr1] at l1
  have N1 := Lib.hid l1
  have B1 : Hid (Below w.heap.size w w1) := by unfold Hid; rw [hG]; exact b1
  clear l1 b1 NW hG hr1
  go_wp2_with fail
  obtain ⟨n, hn⟩ : ∃ n : Nat, min (len : Int) 100 = (n : Int) := ⟨min len 100, by omega⟩
  rw [hn]
  have HN : Hid (n ≤ len ∧ n ≤ 100) := by unfold Hid; omega
  obtain ⟨f, hf⟩ : ∃ f : Nat → Nat, Hid (f = fun i => y i % 64) := ⟨_, rfl⟩
  have HF : Hid (∀ i, f i < 64) := fun i => by rw [hf.out]; exact Nat.mod_lt _ (by omega)
  clear hn
  go_loopw [5] (fun v wr => F1Rel f n g w v wr) (fun v => fun _ => 1001 - (intOf v).toNat)
  case atStart => exact ⟨⟨0, r1, _, Nat.zero_le _, rfl, N1.out, In.start f, O1.out, B1.out⟩⟩
  case round =>
    clear N1 O1 B1
    obtain ⟨⟨k, rb, Ls, hk, rfl, hl, hin, ho, hb⟩⟩ := hrel
    have HL := Lib.hid hl
    have HIN := Lib.hid hin
    have HO := Lib.hid ho
    have HB := Lib.hid hb
    have HK := Lib.hid hk
    clear hl hin ho hb hk
    by_cases hlt : k < n
    · obtain ⟨b, off, rfl, hc⟩ := H0.out.2 (by have := HN.out; omega)
      have d0 := cell_later HB.out (hc k (by have := HN.out; omega))
      obtain ⟨v, hv⟩ : ∃ v, y k = v := ⟨_, rfl⟩
      rw [hv] at d0
      obtain ⟨q, hq⟩ : ∃ q, f k = q := ⟨_, rfl⟩
      have hvq : v % 64 = q := by rw [← hv, ← hq, hf.out]
      have hrem : (v : Int) % 64 = (q : Int) := by omega
      have hrem2 : ((v : Int).tmod 64) = (q : Int) := by rw [Int.tmod_eq_emod_of_nonneg (by omega)]; exact hrem
      have hq64 : q < 64 := by omega
      have hqw : IntKind.i64.wrap (q : Int) = (q : Int) := by rw [IntKind.wrap_i64]; omega
      have hkI : (k : Int) < (n : Int) := by omega
      have hk2 : (k : Int) < 1000 := by have := HN.out; omega
      have hkl : (k : Int) < (len : Int) := by have := HN.out; omega
      have HX : Hid (k < n) := hlt
      have HFK := Lib.hid hq
      have hr1 : Hid (rfz Ls (k : Int) (q : Int) = 0) := by have := HIN.out.refs HF.out; rwa [hq] at this
      have hp1 : Hid (putL Ls (k : Int) (q : Int) = upd Ls q (Ls q ++ [(k : Int)])) := by have := HIN.out.putL_eq HF.out; rwa [hq] at this
      have hi1 : Hid (In f (k + 1) (upd Ls q (Ls q ++ [(k : Int)]))) := by have := HIN.out.next HF.out; rwa [hq] at this
      obtain ⟨L1, hL1⟩ : ∃ L1, upd Ls q (Ls q ++ [(k : Int)]) = L1 := ⟨_, rfl⟩
      rw [hL1] at hp1 hi1
      clear hc hv hvq hlt hL1 hq
      go_wp2_with fail
      refine (put_any g rb Ls (k : Int) (q : Int) wr HL.out (HIN.out.small (by have := HX.out; have := HN.out; omega))).mono ?_
      rintro e w2 ⟨r2, rfl, n2⟩
      rw [hr1.out]
      rw [hp1.out] at n2
      have N2 := Lib.hid n2.lf
      have B2 := Lib.hid (HB.out.trans (n2.below HO.out HB.out.size))
      have O2 := Lib.hid (n2.own HO.out HB.out.size)
      clear n2 HL HB HO d0
      obtain ⟨h7, h8⟩ := hi1.out.again HF.out
      have H7 := Lib.hid h7
      have H8 := Lib.hid h8
      clear h7 h8
      go_wp2_with fail
      refine (put_any g r2 L1 (k : Int) 0 w2 N2.out (hi1.out.small (by have := HX.out; have := HN.out; omega))).mono ?_
      rintro e w3 ⟨r3, rfl, n3⟩
      rw [H7.out]
      rw [H8.out] at n3
      have N3 := Lib.hid n3.lf
      have B3 := Lib.hid (B2.out.trans (n3.below O2.out B2.out.size))
      have O3 := Lib.hid (n3.own O2.out B2.out.size)
      clear n3 N2 B2 O2
      go_wp2_with fail
      go_roundw
      case rel =>
        have Q : F1Rel f n g w (.int .i64 ((k : Int) + 1)) w3 := ⟨⟨k + 1, r3, L1, HX.out, by go_num, N3.out, hi1.out, O3.out, B3.out⟩⟩
        first | exact Q | ((repeat apply Exists.intro); exact ⟨Q, rfl⟩)
      case measure => have := HX.out; have := HN.out; simp [intOf]; omega
    · have hkI : ¬ (k : Int) < (n : Int) := by omega
      have hkn : k = n := by have := HK.out; omega
      subst hkn
      have FA := Lib.hid HIN.out.fa
      clear hlt HIN
      go_wp2_with fail
      go_loopw [6, 7, 8] (fun v6 v7 v wr => F2Rel f k g w v6 v7 v wr) (fun _ _ v => fun _ => 1001 - (intOf v).toNat)
      case atStart => exact ⟨⟨0, -1, 64, rb, Ls, Nat.zero_le _, rfl, rfl, rfl, HL.out, FA.out, HO.out, HB.out⟩⟩
      case round =>
        clear FA HL HO HB
        obtain ⟨⟨j, last, pri, rb, Ls, hj, rfl, rfl, rfl, hl, hfa, ho, hb⟩⟩ := hrel
        have HL := Lib.hid hl
        have HFA := Lib.hid hfa
        have HO := Lib.hid ho
        have HB := Lib.hid hb
        have HJ := Lib.hid hj
        clear hl hfa ho hb hj
        by_cases hlt : j < k
        · have hjI : (j : Int) < (k : Int) := by omega
          have hj2 : (j : Int) < 1000 := by have := HN.out; omega
          have HX : Hid (j < k) := hlt
          clear hlt
          go_wp2_with fail
          refine (take_any g rb Ls wr HL.out (HFA.out.small (by have := HN.out; omega))).mono ?_
          rintro e w2 ⟨x, ok, L2, rfl, tk, n2⟩
          obtain ⟨rfl, i, p, rfl, hi, hfi, hp, hpp, hlow, hfa2⟩ := HFA.out.take HX.out tk
          have N2 := Lib.hid n2.lf
          have B2 := Lib.hid (HB.out.trans (n2.below HO.out HB.out.size))
          have O2 := Lib.hid (n2.own HO.out HB.out.size)
          have FA2 := Lib.hid hfa2
          obtain ⟨b, off, rfl, hc⟩ := H0.out.2 (by have := HN.out; omega)
          have d0 := cell_later B2.out (hc i (by have := HN.out; omega))
          obtain ⟨v, hv⟩ : ∃ v, y i = v := ⟨_, rfl⟩
          rw [hv] at d0
          have hvq : v % 64 = p := by rw [← hv, ← hfi, hf.out]
          have hrem : (v : Int) % 64 = (p : Int) := by omega
          have hrem2 : ((v : Int).tmod 64) = (p : Int) := by rw [Int.tmod_eq_emod_of_nonneg (by omega)]; exact hrem
          have hqw : IntKind.i64.wrap (p : Int) = (p : Int) := by rw [IntKind.wrap_i64]; omega
          have hil : (i : Int) < (len : Int) := by have := HN.out; omega
          have hin1 : ¬ (i : Int) < 0 := by omega
          have hin2 : decide ((i : Int) < 0) = false := by rw [decide_eq_false_iff_not]; omega
          have hin3 : decide ((k : Int) ≤ (i : Int)) = false := by rw [decide_eq_false_iff_not]; omega
          have hin4 : decide (k ≤ i) = false := by rw [decide_eq_false_iff_not]; omega
          have hin5 : ¬ k ≤ i := by omega
          have hpB : decide (pri < (p : Int)) = false := by rw [decide_eq_false_iff_not]; omega
          clear hfa2 n2 tk hi hfi hc hv hvq HFA HL HB HO
          by_cases hpe : (p : Int) = pri
          · have hl1 : decide ((i : Int) ≤ last) = false := by rw [decide_eq_false_iff_not]; have := hlow hpe; omega
            have hl2 : ¬ (i : Int) ≤ last := by have := hlow hpe; omega
            have hpeB : ((p : Int) == pri) = true := by rw [beq_iff_eq]; exact hpe
            have hpC : ¬ pri < (p : Int) := by omega
            clear hlow
            go_wp2_with fail
            go_roundw
            case rel =>
              have Q : F2Rel f k g w (.int .i64 (i : Int)) (.int .i64 pri) (.int .i64 ((j : Int) + 1)) w2 := ⟨⟨j + 1, (i : Int), pri, rb, L2, HX.out, rfl, rfl, by go_num, N2.out, by rw [← hpe]; exact FA2.out, O2.out, B2.out⟩⟩
              first | exact Q | ((repeat apply Exists.intro); exact ⟨Q, rfl⟩)
            case measure => have := HX.out; have := HN.out; simp [intOf]; omega
          · have hpeB : ((p : Int) == pri) = false := by rw [beq_eq_false_iff_ne]; exact hpe
            have hpC : ¬ pri < (p : Int) := by omega
            clear hlow
            go_wp2_with fail
            go_roundw
            case rel =>
              have Q : F2Rel f k g w (.int .i64 (i : Int)) (.int .i64 (p : Int)) (.int .i64 ((j : Int) + 1)) w2 := ⟨⟨j + 1, (i : Int), (p : Int), rb, L2, HX.out, rfl, rfl, by go_num, N2.out, FA2.out, O2.out, B2.out⟩⟩
              first | exact Q | ((repeat apply Exists.intro); exact ⟨Q, rfl⟩)
            case measure => have := HX.out; have := HN.out; simp [intOf]; omega
        · have hjI : ¬ (j : Int) < (k : Int) := by omega
          have hjk : j = k := by have := HJ.out; omega
          subst hjk
          clear hlt
          go_wp2_with fail
          refine (take_any g rb Ls wr HL.out (HFA.out.small (by have := HN.out; omega))).mono ?_
          rintro e w2 ⟨x, ok, L2, rfl, tk, n2⟩
          obtain ⟨rfl, rfl, hz⟩ := HFA.out.done tk
          have N2 := Lib.hid n2.lf
          have B2 := Lib.hid (HB.out.trans (n2.below HO.out HB.out.size))
          have SM := Lib.hid (HFA.out.small (by have := HN.out; omega))
          have HZ := Lib.hid hz
          clear n2 tk hz HFA HL HB HO
          go_wp2_with fail
          refine (known_any w2).mono ?_
          rintro e w3 ⟨rfl, b3⟩
          have N3 := Lib.hid (N2.out.below b3)
          have B3 := Lib.hid (B2.out.trans (b3.mono B2.out.size))
          clear b3 N2 B2
          go_wp2_with fail
          refine (len_any g rb L2 w3 N3.out SM.out).mono ?_
          rintro e w4 ⟨rfl, h⟩
          have h := h.symm
          subst h
          rw [HZ.out]
          go_wp2_with fail
          go_ret
          exact ⟨rfl, B3.out⟩
theorem falls_walk (a : Option Addr) (len cap : Nat) (zs : List Int) (w : World) (h : IsRow .u8 w a len cap zs) :
    Calls Try.prog 4 #[.slice a len cap] w fun e w' => e = .returned (.bool true) ∧ Below w.heap.size w w' := by
  obtain ⟨y, hy⟩ := bytes_at h
  exact falls_core a len cap y w hy
end Go.Proofs.Ytbkjcjkbicaibaa
