/-
  The walk of ReadyBack. Each statement bears its own conditions.
-/
import Derived.Test.YtbkjcjkbicaibaaFalls
import Derived.Test.YtbkjcjkbicaibaaSame
namespace Go.Proofs.Ytbkjcjkbicaibaa
open Go.RowKit
set_option linter.unusedVariables false
set_option linter.unusedSimpArgs false
theorem af_split (Ls : Nat → List Int) (d : Nat) : ∀ j, j + d = 64 → ∃ R, af Ls 64 = af Ls j ++ R ∧ ∀ y ∈ R, ∃ q, q < 64 - j ∧ y ∈ Ls q := by
  induction d with
  | zero => intro j hj; obtain rfl : j = 64 := by omega
            exact ⟨[], by simp, by simp⟩
  | succ d ih =>
    intro j hj
    obtain ⟨R, h1, h2⟩ := ih (j + 1) (by omega)
    refine ⟨Ls (63 - j) ++ R, by rw [h1]; simp [af], fun y hy => ?_⟩
    rcases List.mem_append.1 hy with h | h
    · exact ⟨63 - j, by omega, h⟩
    · obtain ⟨q, h3, h4⟩ := h2 y h
      exact ⟨q, by omega, h4⟩
theorem af_top {Ls : Nat → List Int} {p : Nat} (hp : p < 64) (he : ∀ q, p < q → q < 64 → Ls q = []) : af Ls (64 - p) = Ls p := by
  rw [af_next hp (Nat.le_refl _) he]; rfl
theorem upd_upd {α : Type} (f : Nat → α) (p : Nat) (x y : α) : upd (upd f p x) p y = upd f p y := by
  funext q; simp only [upd]; split <;> rfl
theorem upd_id {α : Type} (f : Nat → α) (p : Nat) {y : α} (h : f p = y) : upd f p y = f := by
  funext q; simp only [upd]; split
  · rename_i e; rw [e, h]
  · rfl
theorem back_one {f : Nat → Nat} {n : Nat} {Ls : Nat → List Int} {p : Nat} {x : Int} {L : List Int} (hf : ∀ i, f i < 64) (h : In f n Ls) (ht : TopL Ls p) (hl : Ls p = x :: L) :
    (∃ i : Nat, x = (i : Int) ∧ i < n ∧ f i = p) ∧ rfz (upd Ls p L) x (p : Int) = 0 ∧ frontL (upd Ls p L) x (p : Int) = Ls ∧ putL (upd Ls p L) x (p : Int) = upd Ls p (L ++ [x]) ∧
      ∃ R, allL (upd Ls p (L ++ [x])) = L ++ x :: R ∧ x ∉ L ∧ x ∉ R ∧ ∀ y ∈ R, ∀ q, q < 64 → y ∈ upd Ls p (L ++ [x]) q → q < p := by
  obtain ⟨i, hx, hi, hfi⟩ := h.of p ht.lt x (by rw [hl]; simp)
  have hpw := h.inc p ht.lt
  rw [hl] at hpw
  have hxL : x ∉ L := fun hm => by have := (List.pairwise_cons.1 hpw).1 x hm; omega
  have hr : rfz (upd Ls p L) x (p : Int) = 0 := by
    unfold rfz
    have hv : vld (p : Int) = true := decide_eq_true ⟨by omega, by have := ht.lt; omega⟩
    have hh : hasL (upd Ls p L) x = false := hasL_not.2 fun q hq hm => by
      by_cases e : q = p
      · subst e; rw [upd_same] at hm; exact hxL hm
      · rw [upd_other _ _ e] at hm
        obtain ⟨i', h1, h2, h3⟩ := h.of q hq x hm
        have : i' = i := by omega
        subst this; omega
    rw [if_neg (by omega), if_neg (by rw [hv]; simp), if_neg (by rw [hh]; simp)]
  refine ⟨⟨i, hx, hi, hfi⟩, hr, ?_, ?_, ?_⟩
  · unfold frontL
    rw [if_pos hr, Int.toNat_natCast, upd_same, upd_upd, upd_id Ls p hl]
  · unfold putL
    rw [if_pos hr, Int.toNat_natCast, upd_same, upd_upd]
  · have hup : ∀ q, p < q → q < 64 → upd Ls p (L ++ [x]) q = [] := fun q h1 h2 => by rw [upd_other _ _ (by omega)]; exact ht.up q h1 h2
    obtain ⟨R, h1, h2⟩ := af_split (upd Ls p (L ++ [x])) p (64 - p) (by have := ht.lt; omega)
    rw [af_top ht.lt hup, upd_same] at h1
    have hin : ∀ y q, q < 64 → y ∈ upd Ls p (L ++ [x]) q → ∃ j : Nat, y = (j : Int) ∧ f j = q := fun y q hq hy => by
      by_cases e : q = p
      · subst e; rw [upd_same, List.mem_append] at hy
        rcases hy with hy | hy
        · obtain ⟨j, a, _, c⟩ := h.of q hq y (by rw [hl]; exact List.mem_cons_of_mem _ hy)
          exact ⟨j, a, c⟩
        · exact ⟨i, by rw [List.mem_singleton.1 hy, hx], hfi⟩
      · rw [upd_other _ _ e] at hy
        obtain ⟨j, a, _, c⟩ := h.of q hq y hy
        exact ⟨j, a, c⟩
    have hR : ∀ y ∈ R, ∀ q, q < 64 → y ∈ upd Ls p (L ++ [x]) q → q < p := fun y hy q hq hm => by
      obtain ⟨q', h3, h4⟩ := h2 y hy
      obtain ⟨j, a, b⟩ := hin y q' (by have := ht.lt; omega) h4
      obtain ⟨j', a', b'⟩ := hin y q hq hm
      have : j = j' := by omega
      subst this
      have := ht.lt; omega
    refine ⟨R, by rw [allL, h1]; simp, hxL, fun hm => ?_, hR⟩
    have := hR x hm p ht.lt (by rw [upd_same]; simp)
    omega
theorem tk_again {Ls L' : Nat → List Int} {p : Nat} {x x' : Int} {ok : Bool} {L : List Int} (ht : TopL Ls p) (hl : Ls p = x :: L) (t : Tk Ls x' ok L') : L' = upd Ls p L := by
  rcases t with ⟨p7, M7, ht7, hl7, _, rfl⟩ | ⟨hem, _⟩
  · have : p7 = p := ht7.uniq ht
    subst this
    rw [hl] at hl7
    injection hl7 with _ h
    rw [h]
  · exact absurd (hem p ht.lt) ht.ne
theorem al_mem {Ls : Nat → List Int} {y : Int} (h : y ∈ allL Ls) : ∃ q, q < 64 ∧ y ∈ Ls q := by
  obtain ⟨R, h1, h2⟩ := af_split Ls 64 0 (by omega)
  unfold allL at h
  rw [h1] at h
  simp [af] at h
  obtain ⟨q, h3, h4⟩ := h2 y h
  exact ⟨q, by omega, h4⟩
theorem back_low {D L R : List Int} {L2 : Nat → List Int} {x : Int} {p j : Nat} (hd : allL L2 = D) (h : D = L ++ x :: R) (hlow : ∀ y ∈ R, ∀ q, q < 64 → y ∈ L2 q → q < p) (hj : L.length < j) (hj2 : j < D.length) {pr : Int} {ok : Bool} (hp : Pr L2 (D.getD j 0) pr ok) : pr < (p : Int) := by
  have hR : D.getD j 0 ∈ R := by
    subst h
    have hj3 : j - L.length - 1 < R.length := by simp at hj2; omega
    rw [List.getD_eq_getElem?_getD, List.getElem?_append_right (by omega), show j - L.length = (j - L.length - 1) + 1 by omega, List.getElem?_cons_succ, ← List.getD_eq_getElem?_getD]
    exact getD_mem hj3
  rcases hp with ⟨q, h1, h2, rfl, _⟩ | ⟨h1, _⟩
  · have := hlow _ hR q h1 h2; omega
  · obtain ⟨q, h2, h3⟩ := al_mem (Ls := L2) (y := D.getD j 0) (by rw [hd]; exact getD_mem hj2)
    exact absurd h3 (h1 q h2)
theorem pos_iff {D L R : List Int} {x : Int} (h : D = L ++ x :: R) (h1 : x ∉ L) (h2 : x ∉ R) {j : Nat} (hj : j < D.length) : D.getD j 0 = x ↔ j = L.length := by
  subst h
  rcases Nat.lt_trichotomy j L.length with h | h | h
  · have e : (L ++ x :: R).getD j 0 = L.getD j 0 := by simp [List.getD_eq_getElem?_getD, List.getElem?_append_left h]
    rw [e]
    constructor
    · intro e2; exact absurd (by rw [← e2]; exact getD_mem h) h1
    · omega
  · subst h; simp [List.getD_eq_getElem?_getD]
  · have hj2 : j - L.length - 1 < R.length := by simp at hj; omega
    have e : (L ++ x :: R).getD j 0 = R.getD (j - L.length - 1) 0 := by
      rw [List.getD_eq_getElem?_getD, List.getElem?_append_right (by omega), List.getD_eq_getElem?_getD]
      rw [show j - L.length = (j - L.length - 1) + 1 by omega, List.getElem?_cons_succ]
      rfl
    rw [e]
    constructor
    · intro e2; exact absurd (by rw [← e2]; exact getD_mem hj2) h2
    · omega
/-- Apart from another list. -/
def Ap (g' : Nat) (rb' : Nat → Nat) (g : Nat) (rb : Nat → Nat) : Prop := g' ≠ g ∧ (∀ q, q < 64 → g' ≠ rb q) ∧ (∀ p, p < 64 → rb' p ≠ g) ∧ (∀ p q, p < 64 → q < 64 → rb' p ≠ rb q)
theorem LF.apart {w w' : World} {g g' : Nat} {rb rb' : Nat → Nat} {Ls : Nat → List Int} (h : LF w g' rb' Ls) (c : ChL g rb w w') (a : Ap g' rb' g rb) : LF w' g' rb' Ls :=
  h.keep c.size (c.block g' h.lt a.1 a.2.1) (fun p hp => c.block _ (h.rlt hp) (a.2.2.1 p hp) (fun q hq => a.2.2.2 p q hp hq))
theorem Nx.apart {w w' : World} {g g' : Nat} {rb rb' rb2 : Nat → Nat} {Ls Ms : Nat → List Int} (n : Nx w w' g rb rb2 Ls) (h : LF w g' rb' Ms) (a : Ap g' rb' g rb) : Ap g' rb' g rb2 := by
  have hl := h.lt
  refine ⟨a.1, fun q hq => ?_, a.2.2.1, fun p q hp hq => ?_⟩
  · rcases n.fr q hq with e | e
    · rw [e]; exact a.2.1 q hq
    · omega
  · have := h.rlt hp
    rcases n.fr q hq with e | e
    · rw [e]; exact a.2.2.2 p q hp hq
    · omega
structure AtRel (n m : Nat) (w : World) (v9 v : Value) (wr : World) : Prop where
  ex : ∃ j : Nat, j ≤ n ∧ v9 = .int .i64 (if m < j then (m : Int) else -1) ∧ v = .int .i64 (j : Int) ∧ Below w.heap.size w wr
structure BhRel (n m : Nat) (w : World) (v : Value) (wr : World) : Prop where
  ex : ∃ j : Nat, m < j ∧ j ≤ n ∧ v = .int .i64 (j : Int) ∧ wr = w
set_option maxRecDepth 100000 in
set_option maxHeartbeats 8000000 in
theorem back_core (a : Option Addr) (len cap : Nat) (y : Nat → Nat) (w : World) (h0 : BytesAt w a len y) :
    Calls Try.prog 5 #[.slice a len cap] w fun e w' => e = .returned (.bool true) ∧ Below w.heap.size w w' := by
  have H0 := Lib.hid h0
  clear h0
  have he : ∀ (x : Nat) (w : World), (binOp .eql 23 (.pointer (some ⟨x, 0, none⟩)) (.pointer none)).run Try.prog w = .ok (.bool false) w := fun _ _ => rfl
  go_enter Try.func5, Try.ntmps5
  go_wp2_with fail
  obtain ⟨g, hG⟩ : ∃ g, w.heap.size = g := ⟨_, rfl⟩
  have NW := Lib.hid (new_any w)
  have HG : Hid (w.heap.size ≤ g) := by unfold Hid; omega
  rw [hG] at NW
  refine NW.out.mono ?_
  rintro e w1 ⟨rfl, l1, b1⟩
  obtain ⟨r1, hr1⟩ : ∃ r1 : Nat → Nat, (fun _ : Nat => g) = r1 := ⟨_, rfl⟩
  have O1 : Hid (Own w.heap.size g r1) := by rw [← hr1]; exact ⟨HG.out, fun _ _ => HG.out⟩
  rw [hr1] at l1
  have N1 := Lib.hid l1
  have B1 : Hid (Below w.heap.size w w1) := by unfold Hid; rw [hG]; exact b1
  clear l1 b1 NW hG hr1
  go_wp2_with fail
  obtain ⟨n, hn⟩ : ∃ n : Nat, min len 100 = n := ⟨_, rfl⟩
  have HN : Hid (n ≤ len ∧ n ≤ 100 ∧ (n = len ∨ n = 100)) := by unfold Hid; omega
  obtain ⟨f, hf⟩ : ∃ f : Nat → Nat, Hid (f = fun i => y i % 64) := ⟨_, rfl⟩
  have HF : Hid (∀ i, f i < 64) := fun i => by rw [hf.out]; exact Nat.mod_lt _ (by omega)
  clear hn
  go_loopw [4] (fun v wr => F1Rel f n g w v wr) (fun v => fun _ => 1001 - (intOf v).toNat)
  case atStart => exact ⟨⟨0, r1, _, Nat.zero_le _, rfl, N1.out, In.start f, O1.out, B1.out⟩⟩
  case round =>
    clear N1 O1 B1
    obtain ⟨⟨k, rb, Ls, hk, rfl, hl, hin, ho, hb⟩⟩ := hrel
    have HL := Lib.hid hl
    have HIN := Lib.hid hin
    have HO := Lib.hid ho
    have HB := Lib.hid hb
    have HK := Lib.hid hk
    clear hl hin ho hb hk
    by_cases hlt : k < n
    · obtain ⟨b, off, rfl, hc⟩ := H0.out.2 (by have := HN.out; omega)
      have d0 := cell_later HB.out (hc k (by have := HN.out; omega))
      obtain ⟨v, hv⟩ : ∃ v, y k = v := ⟨_, rfl⟩
      rw [hv] at d0
      obtain ⟨q, hq⟩ : ∃ q, f k = q := ⟨_, rfl⟩
      have hvq : v % 64 = q := by rw [← hv, ← hq, hf.out]
      have hrem : (v : Int) % 64 = (q : Int) := by omega
      have hrem2 : ((v : Int).tmod 64) = (q : Int) := by rw [Int.tmod_eq_emod_of_nonneg (by omega)]; exact hrem
      have hq64 : q < 64 := by omega
      have hqw : IntKind.i64.wrap (q : Int) = (q : Int) := by rw [IntKind.wrap_i64]; omega
      have hk2 : (k : Int) < 1000 := by have := HN.out; omega
      have hkl : (k : Int) < (len : Int) := by have := HN.out; omega
      have hk100 : (k : Int) < 100 := by have := HN.out; omega
      have HX : Hid (k < n) := hlt
      have hr1 : Hid (rfz Ls (k : Int) (q : Int) = 0) := by have := HIN.out.refs HF.out; rwa [hq] at this
      have hp1 : Hid (putL Ls (k : Int) (q : Int) = upd Ls q (Ls q ++ [(k : Int)])) := by have := HIN.out.putL_eq HF.out; rwa [hq] at this
      have hi1 : Hid (In f (k + 1) (upd Ls q (Ls q ++ [(k : Int)]))) := by have := HIN.out.next HF.out; rwa [hq] at this
      obtain ⟨L1, hL1⟩ : ∃ L1, upd Ls q (Ls q ++ [(k : Int)]) = L1 := ⟨_, rfl⟩
      rw [hL1] at hp1 hi1
      clear hc hv hvq hlt hL1 hq
      go_wp2_with fail
      refine (put_any g rb Ls (k : Int) (q : Int) wr HL.out (HIN.out.small (by have := HX.out; have := HN.out; omega))).mono ?_
      rintro e w2 ⟨r2, rfl, n2⟩
      rw [hr1.out]
      rw [hp1.out] at n2
      have N2 := Lib.hid n2.lf
      have B2 := Lib.hid (HB.out.trans (n2.below HO.out HB.out.size))
      have O2 := Lib.hid (n2.own HO.out HB.out.size)
      clear n2 HL HB HO d0
      go_wp2_with fail
      go_roundw
      case rel =>
        have Q : F1Rel f n g w (.int .i64 ((k : Int) + 1)) w2 := ⟨⟨k + 1, r2, L1, HX.out, by go_num, N2.out, hi1.out, O2.out, B2.out⟩⟩
        first | exact Q | ((repeat apply Exists.intro); exact ⟨Q, rfl⟩)
      case measure => have := HX.out; have := HN.out; simp [intOf]; omega
    · have hkn : k = n := by have := HK.out; omega
      subst hkn
      clear hlt
      by_cases hkl : (k : Int) < (len : Int)
      · have hk100 : ¬ (k : Int) < 100 := by have := HN.out; omega
        have hk100B : decide ((k : Int) < 100) = false := by rw [decide_eq_false_iff_not]; exact hk100
        obtain ⟨n0, hn0⟩ : ∃ n0 : Nat, n0 = k := ⟨_, rfl⟩
        go_wp2_with fail
        refine (clone_l g rb Ls wr HL.out (sm_of (HIN.out.small (by have := HN.out; omega)))).mono ?_
        rintro e w2 ⟨gc, rc, rfl, lc, oc, b2⟩
        have L2 := Lib.hid (HL.out.below b2)
        have LC := Lib.hid lc
        have AP : Hid (gc ≠ g ∧ (∀ q, q < 64 → gc ≠ rb q) ∧ (∀ p, p < 64 → rc p ≠ g) ∧ (∀ p q, p < 64 → q < 64 → rc p ≠ rb q)) := by
          have h1 := HL.out.lt
          have h2 := oc.1
          exact ⟨by omega, fun q hq => by have := HL.out.rlt hq; omega, fun p hp => by have := oc.2 p hp; omega, fun p q hp hq => by have := oc.2 p hp; have := HL.out.rlt hq; omega⟩
        have OC : Hid (Own w.heap.size gc rc) := ⟨Nat.le_trans HB.out.size oc.1, fun p hp => Nat.le_trans HB.out.size (oc.2 p hp)⟩
        have B2 := Lib.hid (HB.out.trans (b2.mono HB.out.size))
        have SM := Lib.hid (sm_of (HIN.out.small (by have := HN.out; omega)))
        clear lc oc b2 HB HL
        go_wp2_with fail
        refine (take_any g rb Ls w2 L2.out SM.out).mono ?_
        rintro e w3 ⟨x, ok, L3, rfl, tk, n3⟩
        have N3 := Lib.hid n3.lf
        have C3 := Lib.hid (LC.out.apart n3.ch AP.out)
        have B3 := Lib.hid (B2.out.trans (n3.below HO.out B2.out.size))
        clear n3 L2 LC B2
        rcases tk with ⟨p, L, ht, hl, rfl, rfl⟩ | ⟨hem, rfl, rfl, rfl⟩
        · obtain ⟨⟨i, rfl, hi, hfi⟩, hrf, hfr, hpt, R, hal, hxL, hxR, hlow⟩ := back_one HF.out HIN.out ht hl
          have HTL := Lib.hid ht
          have HLL := Lib.hid hl
          have HFR := Lib.hid hfr
          have HPT := Lib.hid hpt
          have HRF := Lib.hid hrf
          have HAL := Lib.hid hal
          have HXL := Lib.hid hxL
          have HXR := Lib.hid hxR
          have HLOW := Lib.hid hlow
          have HI : Hid (i < k ∧ f i = p ∧ p < 64) := ⟨hi, hfi, ht.lt⟩
          have SM1 : Hid (∀ q, q < 64 → (upd Ls p L q).length ≤ 999) := fun q hq => by
            have h1 := HIN.out.small (by have := HN.out; omega) q hq
            by_cases e : q = p
            · subst e; rw [upd_same]; rw [hl] at h1; simp at h1; omega
            · rw [upd_other _ _ e]; exact h1
          have NEQ : Hid (eqL (upd Ls p L) Ls = false) := by
            unfold Hid eqL
            rw [decide_eq_false_iff_not]
            intro h
            have := h p ht.lt
            rw [upd_same, hl] at this
            have := congrArg List.length this
            simp at this
          obtain ⟨b, off, rfl, hc⟩ := H0.out.2 (by have := HN.out; omega)
          have HCI : Hid (w.cell? ⟨b, off + i, none⟩ = some (.int .u8 (y i : Int))) := hc i (by have := HN.out; omega)
          obtain ⟨v, hv⟩ : ∃ v, y i = v := ⟨_, rfl⟩
          rw [hv] at HCI
          have hvq : v % 64 = p := by rw [← hv, ← hfi, hf.out]
          have hrem : (v : Int) % 64 = (p : Int) := by omega
          have hrem2 : ((v : Int).tmod 64) = (p : Int) := by rw [Int.tmod_eq_emod_of_nonneg (by omega)]; exact hrem
          have hqw : IntKind.i64.wrap (p : Int) = (p : Int) := by rw [IntKind.wrap_i64]; have := HI.out; omega
          have hil : (i : Int) < (len : Int) := by have := HN.out; omega
          have hin1 : ¬ (i : Int) < 0 := by omega
          have hin2 : decide ((i : Int) < 0) = false := by rw [decide_eq_false_iff_not]; omega
          have hin4 : decide (len ≤ i) = false := by rw [decide_eq_false_iff_not]; omega
          have hin5 : ¬ len ≤ i := by omega
          have hin6 : decide ((len : Int) ≤ (i : Int)) = false := by rw [decide_eq_false_iff_not]; omega
          clear ht hl hfr hpt hrf hal hxL hxR hlow hi hfi hc hv hvq
          have he2 : ∀ (x : Nat) (w : World), (binOp .eql 23 (.pointer (some ⟨x, 0, none⟩)) (.pointer none)).run Try.prog w = .ok (.bool false) w := fun _ _ => rfl
          go_wp2_with fail
          refine (same_any g gc rb rc (upd Ls p L) Ls w3 N3.out (sm_of SM1.out) C3.out SM.out).mono ?_
          rintro e w4 ⟨rfl, b4⟩
          rw [NEQ.out]
          have N4 := Lib.hid (N3.out.below b4)
          have C4 := Lib.hid (C3.out.below b4)
          have B4 := Lib.hid (B3.out.trans (b4.mono B3.out.size))
          clear b4 N3 C3 B3
          have d0 := cell_later B4.out HCI.out
          go_wp2_with fail
          refine (front_any g rb (upd Ls p L) (i : Int) (p : Int) w4 N4.out SM1.out).mono ?_
          rintro e w5 ⟨r5, rfl, n5⟩
          rw [HRF.out]
          rw [HFR.out] at n5
          have N5 := Lib.hid n5.lf
          have C5 := Lib.hid (C4.out.apart n5.ch AP.out)
          have AP5 := Lib.hid (n5.apart C4.out AP.out)
          have B5 := Lib.hid (B4.out.trans (n5.below HO.out B4.out.size))
          have O5 := Lib.hid (n5.own HO.out B4.out.size)
          clear n5 N4 C4 B4 d0 AP
          go_wp2_with fail
          refine (same_any g gc r5 rc Ls Ls w5 N5.out SM.out C5.out SM.out).mono ?_
          rintro e w6 ⟨rfl, b6⟩
          rw [show eqL Ls Ls = true from decide_eq_true fun _ _ => rfl]
          have N6 := Lib.hid (N5.out.below b6)
          have B6 := Lib.hid (B5.out.trans (b6.mono B5.out.size))
          clear b6 N5 C5 B5
          go_wp2_with fail
          refine (take_any g r5 Ls w6 N6.out SM.out).mono ?_
          rintro e w7 ⟨x7, ok7, L7, rfl, tk7, n7⟩
          have h77 := tk_again HTL.out HLL.out tk7
          rw [h77] at n7
          have N7 := Lib.hid n7.lf
          have B7 := Lib.hid (B6.out.trans (n7.below O5.out B6.out.size))
          clear n7 tk7 N6 B6
          have d0 := cell_later B7.out HCI.out
          go_wp2_with fail
          refine (put_any g r5 (upd Ls p L) (i : Int) (p : Int) w7 N7.out SM1.out).mono ?_
          rintro e w8 ⟨r8, rfl, n8⟩
          rw [HRF.out]
          rw [HPT.out] at n8
          have N8 := Lib.hid n8.lf
          have B8 := Lib.hid (B7.out.trans (n8.below O5.out B7.out.size))
          clear n8 N7 B7 d0
          obtain ⟨L2, hL2⟩ : ∃ L2, upd Ls p (L ++ [(i : Int)]) = L2 := ⟨_, rfl⟩
          have SM2 : Hid (Sm L2) := fun q hq => by
            rw [← hL2]
            have h1 := HIN.out.small (by have := HN.out; omega) q hq
            by_cases e : q = p
            · subst e; rw [upd_same]; rw [HLL.out] at h1; simp at h1 ⊢; omega
            · rw [upd_other _ _ e]; omega
          rw [hL2] at N8 HAL HLOW
          clear hL2
          go_wp2_with fail
          refine (all_any g r8 L2 w8 N8.out SM2.out).mono ?_
          rintro e w9 ⟨A9, n9, c9, rfl, o9, b9⟩
          have N9 := Lib.hid (N8.out.below b9)
          have B9 := Lib.hid (B8.out.trans (b9.mono B8.out.size))
          have NL : Hid (n9 ≤ 64000 ∧ (allL L2).length = n9) := by
            have h1 := o9.1
            rw [C_len] at h1
            have h2 := af_len SM2.out 64 (Nat.le_refl _)
            unfold allL at *
            unfold Hid; omega
          have R9 := Lib.hid (Reads.of_own o9)
          obtain ⟨D, hD⟩ : ∃ D, allL L2 = D := ⟨_, rfl⟩
          rw [hD] at HAL NL R9
          have HDD := Lib.hid hD
          clear o9 b9 N8 B8 hD
          obtain ⟨m, hm⟩ : ∃ m, L.length = m := ⟨_, rfl⟩
          have HML := Lib.hid hm
          have HMN : Hid (m < n9) := by unfold Hid; rw [← NL.out.2, HAL.out]; simp; omega
          have HPOS : Hid (∀ j, j < n9 → (D.getD j 0 = (i : Int) ↔ j = m)) := fun j hj => by
            rw [← hm]
            exact pos_iff HAL.out HXL.out HXR.out (by rw [NL.out.2]; exact hj)
          clear hm
          go_wp2_with fail
          go_loopw [9, 10] (fun v9 v wx => AtRel n9 m w9 v9 v wx) (fun _ v => fun _ => 64001 - (intOf v).toNat)
          case atStart => exact ⟨⟨0, Nat.zero_le _, by rw [if_neg (by omega)], rfl, Below.refl _ _⟩⟩
          case round =>
            obtain ⟨⟨j, hj, rfl, rfl, hbx⟩⟩ := hrel
            have HBX := Lib.hid hbx
            have HJ := Lib.hid hj
            clear hbx hj
            by_cases hlt : j < n9
            · obtain ⟨bb, oo, rfl, _, _, hcc⟩ := place_i R9.out (by omega)
              have d0 := cell_later HBX.out (hcc j hlt)
              obtain ⟨z, hz⟩ : ∃ z, D.getD j 0 = z := ⟨_, rfl⟩
              rw [hz] at d0
              have hjI : (j : Int) < (n9 : Int) := by omega
              have hj2 : (j : Int) < 100000 := by have := NL.out; omega
              have HX : Hid (j < n9) := hlt
              have hjw : IntKind.i64.wrap ((j : Int) + 1) = (j : Int) + 1 := by rw [IntKind.wrap_i64]; omega
              have HZ := Lib.hid hz
              by_cases hji : j = m
              · have hzi : z = (i : Int) := by rw [← hz]; exact (HPOS.out j hlt).2 hji
                subst hzi
                have HJM := Lib.hid hji
                clear hcc hz hlt hji
                have hbb : ((i : Int) == (i : Int)) = true := by simp
                obtain ⟨q9, hq9⟩ : ∃ q9 : Int, (if m < j then (m : Int) else -1) = q9 := ⟨_, rfl⟩
                rw [hq9]
                go_wp2_with fail
                go_roundw
                case rel =>
                  have Q : AtRel n9 m w9 (.int .i64 (j : Int)) (.int .i64 ((j : Int) + 1)) wr := ⟨⟨j + 1, HX.out, by rw [if_pos (by have := HJM.out; omega), HJM.out], by go_num, HBX.out⟩⟩
                  first | exact Q | ((repeat apply Exists.intro); exact ⟨Q, rfl⟩)
                case measure => have := HX.out; have := NL.out; simp [intOf]; omega
              · have hzi : ¬ z = (i : Int) := fun e => hji ((HPOS.out j hlt).1 (by rw [hz]; exact e))
                have hbb : (z == (i : Int)) = false := by rw [beq_eq_false_iff_ne]; exact hzi
                have HJM : Hid (j ≠ m) := hji
                clear hcc hz hlt hji
                obtain ⟨q9, hq9⟩ : ∃ q9 : Int, (if m < j then (m : Int) else -1) = q9 := ⟨_, rfl⟩
                have HQ9 : Hid (q9 = (if m < j + 1 then (m : Int) else -1)) := by
                  unfold Hid
                  rw [← hq9]
                  have := HJM.out
                  by_cases h : m < j
                  · rw [if_pos h, if_pos (by omega)]
                  · rw [if_neg h, if_neg (by omega)]
                rw [hq9]
                clear hq9
                clear hzi
                go_wp2_with fail
                --MARK1
                go_roundw
                case rel =>
                  have Q : AtRel n9 m w9 (.int .i64 q9) (.int .i64 ((j : Int) + 1)) wr := ⟨⟨j + 1, HX.out, by rw [HQ9.out], by go_num, HBX.out⟩⟩
                  first | exact Q | ((repeat apply Exists.intro); exact ⟨Q, rfl⟩)
                case measure => have := HX.out; have := NL.out; simp [intOf]; omega
            · have hjI : ¬ (j : Int) < (n9 : Int) := by omega
              have hjn : j = n9 := by have := HJ.out; omega
              subst hjn
              rw [if_pos HMN.out]
              have hm0 : ¬ (m : Int) < 0 := by omega
              have hmw : IntKind.i64.wrap ((m : Int) + 1) = (m : Int) + 1 := by have := HMN.out; have := NL.out; rw [IntKind.wrap_i64]; omega
              have N10 := Lib.hid (N9.out.below HBX.out)
              have R10 := Lib.hid (R9.out.below HBX.out)
              have B10 := Lib.hid (B9.out.trans (HBX.out.mono B9.out.size))
              clear hlt N9 R9 B9 HBX
              go_wp2_with fail
              obtain ⟨wy, hwy⟩ : ∃ wy, wy = wr := ⟨_, rfl⟩
              rw [← hwy] at N10 R10 B10 ⊢
              clear hwy
              go_loopw [11] (fun v wx => BhRel j m wy v wx) (fun v => fun _ => 64002 - (intOf v).toNat)
              case atStart => exact ⟨⟨m + 1, by omega, HMN.out, by go_num, rfl⟩⟩
              case round =>
                obtain ⟨⟨u, hu1, hu2, rfl, hwr⟩⟩ := hrel
                have hwr := hwr.symm
                subst hwr
                have HU : Hid (m < u ∧ u ≤ j) := ⟨hu1, hu2⟩
                clear hu1 hu2
                by_cases hlt2 : u < j
                · obtain ⟨bb, oo, rfl, _, _, hcc⟩ := place_i R10.out (by omega)
                  have d1 := hcc u hlt2
                  have d0 := cell_later B10.out HCI.out
                  obtain ⟨z, hz⟩ : ∃ z, D.getD u 0 = z := ⟨_, rfl⟩
                  rw [hz] at d1
                  have HLP : Hid (∀ pr ok, Pr L2 z pr ok → pr < (p : Int)) := fun pr ok hp => by
                    rw [← hz] at hp
                    exact back_low HDD.out HAL.out HLOW.out (by rw [HML.out]; exact HU.out.1) (by rw [NL.out.2]; exact hlt2) hp
                  have huI : (u : Int) < (j : Int) := by omega
                  have huw : IntKind.i64.wrap ((u : Int) + 1) = (u : Int) + 1 := by have := NL.out; rw [IntKind.wrap_i64]; omega
                  have HX : Hid (u < j) := hlt2
                  clear hcc hz hlt2
                  go_wp2_with fail
                  refine (prio_any g r8 L2 z wy N10.out SM2.out).mono ?_
                  rintro e w11 ⟨pz, okz, rfl, hpr, h⟩
                  have h := h.symm
                  subst h
                  have hlo := HLP.out _ _ hpr
                  have hpzB : decide ((p : Int) ≤ pz) = false := by rw [decide_eq_false_iff_not]; omega
                  have hpzN : ¬ (p : Int) ≤ pz := by omega
                  clear hpr hlo
                  go_wp2_with fail
                  go_roundw
                  case rel =>
                    have Q : BhRel j m wy (.int .i64 ((u : Int) + 1)) wy := ⟨⟨u + 1, by have := HU.out; omega, HX.out, by go_num, rfl⟩⟩
                    first | exact Q | ((repeat apply Exists.intro); exact ⟨Q, rfl⟩)
                  case measure => have := HX.out; have := NL.out; simp [intOf]; omega
                · have huI : ¬ (u : Int) < (j : Int) := by omega
                  clear hlt2
                  go_wp2_with fail
                  refine (known_any wy).mono ?_
                  rintro e w11 ⟨rfl, b11⟩
                  have B11 := Lib.hid (B10.out.trans (b11.mono B10.out.size))
                  clear b11
                  go_wp2_with fail
                  go_ret
                  exact ⟨rfl, B11.out⟩
        · have HEM := Lib.hid hem
          have hk0 : k = 0 := by have := ln_empty hem 64 (Nat.le_refl _); have := HIN.out.cnt; omega
          have hl0 : len = 0 := by have := HN.out; omega
          subst hl0
          clear hem
          go_wp2_with fail
          refine (known_any w3).mono ?_
          rintro e w4 ⟨rfl, b4⟩
          have B4 := Lib.hid (B3.out.trans (b4.mono B3.out.size))
          clear b4
          go_wp2_with fail
          go_ret
          exact ⟨rfl, B4.out⟩
      · have hklB : decide ((k : Int) < (len : Int)) = false := by rw [decide_eq_false_iff_not]; exact hkl
        have hklB2 : decide (k < len) = false := by rw [decide_eq_false_iff_not]; omega
        obtain ⟨n0, hn0⟩ : ∃ n0 : Nat, n0 = k := ⟨_, rfl⟩
        go_wp2_with fail
        refine (clone_l g rb Ls wr HL.out (sm_of (HIN.out.small (by have := HN.out; omega)))).mono ?_
        rintro e w2 ⟨gc, rc, rfl, lc, oc, b2⟩
        have L2 := Lib.hid (HL.out.below b2)
        have LC := Lib.hid lc
        have AP : Hid (gc ≠ g ∧ (∀ q, q < 64 → gc ≠ rb q) ∧ (∀ p, p < 64 → rc p ≠ g) ∧ (∀ p q, p < 64 → q < 64 → rc p ≠ rb q)) := by
          have h1 := HL.out.lt
          have h2 := oc.1
          exact ⟨by omega, fun q hq => by have := HL.out.rlt hq; omega, fun p hp => by have := oc.2 p hp; omega, fun p q hp hq => by have := oc.2 p hp; have := HL.out.rlt hq; omega⟩
        have OC : Hid (Own w.heap.size gc rc) := ⟨Nat.le_trans HB.out.size oc.1, fun p hp => Nat.le_trans HB.out.size (oc.2 p hp)⟩
        have B2 := Lib.hid (HB.out.trans (b2.mono HB.out.size))
        have SM := Lib.hid (sm_of (HIN.out.small (by have := HN.out; omega)))
        clear lc oc b2 HB HL
        go_wp2_with fail
        refine (take_any g rb Ls w2 L2.out SM.out).mono ?_
        rintro e w3 ⟨x, ok, L3, rfl, tk, n3⟩
        have N3 := Lib.hid n3.lf
        have C3 := Lib.hid (LC.out.apart n3.ch AP.out)
        have B3 := Lib.hid (B2.out.trans (n3.below HO.out B2.out.size))
        clear n3 L2 LC B2
        rcases tk with ⟨p, L, ht, hl, rfl, rfl⟩ | ⟨hem, rfl, rfl, rfl⟩
        · obtain ⟨⟨i, rfl, hi, hfi⟩, hrf, hfr, hpt, R, hal, hxL, hxR, hlow⟩ := back_one HF.out HIN.out ht hl
          have HTL := Lib.hid ht
          have HLL := Lib.hid hl
          have HFR := Lib.hid hfr
          have HPT := Lib.hid hpt
          have HRF := Lib.hid hrf
          have HAL := Lib.hid hal
          have HXL := Lib.hid hxL
          have HXR := Lib.hid hxR
          have HLOW := Lib.hid hlow
          have HI : Hid (i < k ∧ f i = p ∧ p < 64) := ⟨hi, hfi, ht.lt⟩
          have SM1 : Hid (∀ q, q < 64 → (upd Ls p L q).length ≤ 999) := fun q hq => by
            have h1 := HIN.out.small (by have := HN.out; omega) q hq
            by_cases e : q = p
            · subst e; rw [upd_same]; rw [hl] at h1; simp at h1; omega
            · rw [upd_other _ _ e]; exact h1
          have NEQ : Hid (eqL (upd Ls p L) Ls = false) := by
            unfold Hid eqL
            rw [decide_eq_false_iff_not]
            intro h
            have := h p ht.lt
            rw [upd_same, hl] at this
            have := congrArg List.length this
            simp at this
          obtain ⟨b, off, rfl, hc⟩ := H0.out.2 (by have := HN.out; omega)
          have HCI : Hid (w.cell? ⟨b, off + i, none⟩ = some (.int .u8 (y i : Int))) := hc i (by have := HN.out; omega)
          obtain ⟨v, hv⟩ : ∃ v, y i = v := ⟨_, rfl⟩
          rw [hv] at HCI
          have hvq : v % 64 = p := by rw [← hv, ← hfi, hf.out]
          have hrem : (v : Int) % 64 = (p : Int) := by omega
          have hrem2 : ((v : Int).tmod 64) = (p : Int) := by rw [Int.tmod_eq_emod_of_nonneg (by omega)]; exact hrem
          have hqw : IntKind.i64.wrap (p : Int) = (p : Int) := by rw [IntKind.wrap_i64]; have := HI.out; omega
          have hil : (i : Int) < (len : Int) := by have := HN.out; omega
          have hin1 : ¬ (i : Int) < 0 := by omega
          have hin2 : decide ((i : Int) < 0) = false := by rw [decide_eq_false_iff_not]; omega
          have hin4 : decide (len ≤ i) = false := by rw [decide_eq_false_iff_not]; omega
          have hin5 : ¬ len ≤ i := by omega
          have hin6 : decide ((len : Int) ≤ (i : Int)) = false := by rw [decide_eq_false_iff_not]; omega
          clear ht hl hfr hpt hrf hal hxL hxR hlow hi hfi hc hv hvq
          have he2 : ∀ (x : Nat) (w : World), (binOp .eql 23 (.pointer (some ⟨x, 0, none⟩)) (.pointer none)).run Try.prog w = .ok (.bool false) w := fun _ _ => rfl
          go_wp2_with fail
          refine (same_any g gc rb rc (upd Ls p L) Ls w3 N3.out (sm_of SM1.out) C3.out SM.out).mono ?_
          rintro e w4 ⟨rfl, b4⟩
          rw [NEQ.out]
          have N4 := Lib.hid (N3.out.below b4)
          have C4 := Lib.hid (C3.out.below b4)
          have B4 := Lib.hid (B3.out.trans (b4.mono B3.out.size))
          clear b4 N3 C3 B3
          have d0 := cell_later B4.out HCI.out
          go_wp2_with fail
          refine (front_any g rb (upd Ls p L) (i : Int) (p : Int) w4 N4.out SM1.out).mono ?_
          rintro e w5 ⟨r5, rfl, n5⟩
          rw [HRF.out]
          rw [HFR.out] at n5
          have N5 := Lib.hid n5.lf
          have C5 := Lib.hid (C4.out.apart n5.ch AP.out)
          have AP5 := Lib.hid (n5.apart C4.out AP.out)
          have B5 := Lib.hid (B4.out.trans (n5.below HO.out B4.out.size))
          have O5 := Lib.hid (n5.own HO.out B4.out.size)
          clear n5 N4 C4 B4 d0 AP
          go_wp2_with fail
          refine (same_any g gc r5 rc Ls Ls w5 N5.out SM.out C5.out SM.out).mono ?_
          rintro e w6 ⟨rfl, b6⟩
          rw [show eqL Ls Ls = true from decide_eq_true fun _ _ => rfl]
          have N6 := Lib.hid (N5.out.below b6)
          have B6 := Lib.hid (B5.out.trans (b6.mono B5.out.size))
          clear b6 N5 C5 B5
          go_wp2_with fail
          refine (take_any g r5 Ls w6 N6.out SM.out).mono ?_
          rintro e w7 ⟨x7, ok7, L7, rfl, tk7, n7⟩
          have h77 := tk_again HTL.out HLL.out tk7
          rw [h77] at n7
          have N7 := Lib.hid n7.lf
          have B7 := Lib.hid (B6.out.trans (n7.below O5.out B6.out.size))
          clear n7 tk7 N6 B6
          have d0 := cell_later B7.out HCI.out
          go_wp2_with fail
          refine (put_any g r5 (upd Ls p L) (i : Int) (p : Int) w7 N7.out SM1.out).mono ?_
          rintro e w8 ⟨r8, rfl, n8⟩
          rw [HRF.out]
          rw [HPT.out] at n8
          have N8 := Lib.hid n8.lf
          have B8 := Lib.hid (B7.out.trans (n8.below O5.out B7.out.size))
          clear n8 N7 B7 d0
          obtain ⟨L2, hL2⟩ : ∃ L2, upd Ls p (L ++ [(i : Int)]) = L2 := ⟨_, rfl⟩
          have SM2 : Hid (Sm L2) := fun q hq => by
            rw [← hL2]
            have h1 := HIN.out.small (by have := HN.out; omega) q hq
            by_cases e : q = p
            · subst e; rw [upd_same]; rw [HLL.out] at h1; simp at h1 ⊢; omega
            · rw [upd_other _ _ e]; omega
          rw [hL2] at N8 HAL HLOW
          clear hL2
          go_wp2_with fail
          refine (all_any g r8 L2 w8 N8.out SM2.out).mono ?_
          rintro e w9 ⟨A9, n9, c9, rfl, o9, b9⟩
          have N9 := Lib.hid (N8.out.below b9)
          have B9 := Lib.hid (B8.out.trans (b9.mono B8.out.size))
          have NL : Hid (n9 ≤ 64000 ∧ (allL L2).length = n9) := by
            have h1 := o9.1
            rw [C_len] at h1
            have h2 := af_len SM2.out 64 (Nat.le_refl _)
            unfold allL at *
            unfold Hid; omega
          have R9 := Lib.hid (Reads.of_own o9)
          obtain ⟨D, hD⟩ : ∃ D, allL L2 = D := ⟨_, rfl⟩
          rw [hD] at HAL NL R9
          have HDD := Lib.hid hD
          clear o9 b9 N8 B8 hD
          obtain ⟨m, hm⟩ : ∃ m, L.length = m := ⟨_, rfl⟩
          have HML := Lib.hid hm
          have HMN : Hid (m < n9) := by unfold Hid; rw [← NL.out.2, HAL.out]; simp; omega
          have HPOS : Hid (∀ j, j < n9 → (D.getD j 0 = (i : Int) ↔ j = m)) := fun j hj => by
            rw [← hm]
            exact pos_iff HAL.out HXL.out HXR.out (by rw [NL.out.2]; exact hj)
          clear hm
          go_wp2_with fail
          go_loopw [9, 10] (fun v9 v wx => AtRel n9 m w9 v9 v wx) (fun _ v => fun _ => 64001 - (intOf v).toNat)
          case atStart => exact ⟨⟨0, Nat.zero_le _, by rw [if_neg (by omega)], rfl, Below.refl _ _⟩⟩
          case round =>
            obtain ⟨⟨j, hj, rfl, rfl, hbx⟩⟩ := hrel
            have HBX := Lib.hid hbx
            have HJ := Lib.hid hj
            clear hbx hj
            by_cases hlt : j < n9
            · obtain ⟨bb, oo, rfl, _, _, hcc⟩ := place_i R9.out (by omega)
              have d0 := cell_later HBX.out (hcc j hlt)
              obtain ⟨z, hz⟩ : ∃ z, D.getD j 0 = z := ⟨_, rfl⟩
              rw [hz] at d0
              have hjI : (j : Int) < (n9 : Int) := by omega
              have hj2 : (j : Int) < 100000 := by have := NL.out; omega
              have HX : Hid (j < n9) := hlt
              have hjw : IntKind.i64.wrap ((j : Int) + 1) = (j : Int) + 1 := by rw [IntKind.wrap_i64]; omega
              have HZ := Lib.hid hz
              by_cases hji : j = m
              · have hzi : z = (i : Int) := by rw [← hz]; exact (HPOS.out j hlt).2 hji
                subst hzi
                have HJM := Lib.hid hji
                clear hcc hz hlt hji
                have hbb : ((i : Int) == (i : Int)) = true := by simp
                obtain ⟨q9, hq9⟩ : ∃ q9 : Int, (if m < j then (m : Int) else -1) = q9 := ⟨_, rfl⟩
                rw [hq9]
                go_wp2_with fail
                go_roundw
                case rel =>
                  have Q : AtRel n9 m w9 (.int .i64 (j : Int)) (.int .i64 ((j : Int) + 1)) wr := ⟨⟨j + 1, HX.out, by rw [if_pos (by have := HJM.out; omega), HJM.out], by go_num, HBX.out⟩⟩
                  first | exact Q | ((repeat apply Exists.intro); exact ⟨Q, rfl⟩)
                case measure => have := HX.out; have := NL.out; simp [intOf]; omega
              · have hzi : ¬ z = (i : Int) := fun e => hji ((HPOS.out j hlt).1 (by rw [hz]; exact e))
                have hbb : (z == (i : Int)) = false := by rw [beq_eq_false_iff_ne]; exact hzi
                have HJM : Hid (j ≠ m) := hji
                clear hcc hz hlt hji
                obtain ⟨q9, hq9⟩ : ∃ q9 : Int, (if m < j then (m : Int) else -1) = q9 := ⟨_, rfl⟩
                have HQ9 : Hid (q9 = (if m < j + 1 then (m : Int) else -1)) := by
                  unfold Hid
                  rw [← hq9]
                  have := HJM.out
                  by_cases h : m < j
                  · rw [if_pos h, if_pos (by omega)]
                  · rw [if_neg h, if_neg (by omega)]
                rw [hq9]
                clear hq9
                clear hzi
                go_wp2_with fail
                --MARK1
                go_roundw
                case rel =>
                  have Q : AtRel n9 m w9 (.int .i64 q9) (.int .i64 ((j : Int) + 1)) wr := ⟨⟨j + 1, HX.out, by rw [HQ9.out], by go_num, HBX.out⟩⟩
                  first | exact Q | ((repeat apply Exists.intro); exact ⟨Q, rfl⟩)
                case measure => have := HX.out; have := NL.out; simp [intOf]; omega
            · have hjI : ¬ (j : Int) < (n9 : Int) := by omega
              have hjn : j = n9 := by have := HJ.out; omega
              subst hjn
              rw [if_pos HMN.out]
              have hm0 : ¬ (m : Int) < 0 := by omega
              have hmw : IntKind.i64.wrap ((m : Int) + 1) = (m : Int) + 1 := by have := HMN.out; have := NL.out; rw [IntKind.wrap_i64]; omega
              have N10 := Lib.hid (N9.out.below HBX.out)
              have R10 := Lib.hid (R9.out.below HBX.out)
              have B10 := Lib.hid (B9.out.trans (HBX.out.mono B9.out.size))
              clear hlt N9 R9 B9 HBX
              go_wp2_with fail
              obtain ⟨wy, hwy⟩ : ∃ wy, wy = wr := ⟨_, rfl⟩
              rw [← hwy] at N10 R10 B10 ⊢
              clear hwy
              go_loopw [11] (fun v wx => BhRel j m wy v wx) (fun v => fun _ => 64002 - (intOf v).toNat)
              case atStart => exact ⟨⟨m + 1, by omega, HMN.out, by go_num, rfl⟩⟩
              case round =>
                obtain ⟨⟨u, hu1, hu2, rfl, hwr⟩⟩ := hrel
                have hwr := hwr.symm
                subst hwr
                have HU : Hid (m < u ∧ u ≤ j) := ⟨hu1, hu2⟩
                clear hu1 hu2
                by_cases hlt2 : u < j
                · obtain ⟨bb, oo, rfl, _, _, hcc⟩ := place_i R10.out (by omega)
                  have d1 := hcc u hlt2
                  have d0 := cell_later B10.out HCI.out
                  obtain ⟨z, hz⟩ : ∃ z, D.getD u 0 = z := ⟨_, rfl⟩
                  rw [hz] at d1
                  have HLP : Hid (∀ pr ok, Pr L2 z pr ok → pr < (p : Int)) := fun pr ok hp => by
                    rw [← hz] at hp
                    exact back_low HDD.out HAL.out HLOW.out (by rw [HML.out]; exact HU.out.1) (by rw [NL.out.2]; exact hlt2) hp
                  have huI : (u : Int) < (j : Int) := by omega
                  have huw : IntKind.i64.wrap ((u : Int) + 1) = (u : Int) + 1 := by have := NL.out; rw [IntKind.wrap_i64]; omega
                  have HX : Hid (u < j) := hlt2
                  clear hcc hz hlt2
                  go_wp2_with fail
                  refine (prio_any g r8 L2 z wy N10.out SM2.out).mono ?_
                  rintro e w11 ⟨pz, okz, rfl, hpr, h⟩
                  have h := h.symm
                  subst h
                  have hlo := HLP.out _ _ hpr
                  have hpzB : decide ((p : Int) ≤ pz) = false := by rw [decide_eq_false_iff_not]; omega
                  have hpzN : ¬ (p : Int) ≤ pz := by omega
                  clear hpr hlo
                  go_wp2_with fail
                  go_roundw
                  case rel =>
                    have Q : BhRel j m wy (.int .i64 ((u : Int) + 1)) wy := ⟨⟨u + 1, by have := HU.out; omega, HX.out, by go_num, rfl⟩⟩
                    first | exact Q | ((repeat apply Exists.intro); exact ⟨Q, rfl⟩)
                  case measure => have := HX.out; have := NL.out; simp [intOf]; omega
                · have huI : ¬ (u : Int) < (j : Int) := by omega
                  clear hlt2
                  go_wp2_with fail
                  refine (known_any wy).mono ?_
                  rintro e w11 ⟨rfl, b11⟩
                  have B11 := Lib.hid (B10.out.trans (b11.mono B10.out.size))
                  clear b11
                  go_wp2_with fail
                  go_ret
                  exact ⟨rfl, B11.out⟩
        · have HEM := Lib.hid hem
          have hk0 : k = 0 := by have := ln_empty hem 64 (Nat.le_refl _); have := HIN.out.cnt; omega
          have hl0 : len = 0 := by have := HN.out; omega
          subst hl0
          clear hem
          go_wp2_with fail
          refine (known_any w3).mono ?_
          rintro e w4 ⟨rfl, b4⟩
          have B4 := Lib.hid (B3.out.trans (b4.mono B3.out.size))
          clear b4
          go_wp2_with fail
          go_ret
          exact ⟨rfl, B4.out⟩
theorem back_walk (a : Option Addr) (len cap : Nat) (zs : List Int) (w : World) (h : IsRow .u8 w a len cap zs) :
    Calls Try.prog 5 #[.slice a len cap] w fun e w' => e = .returned (.bool true) ∧ Below w.heap.size w w' := by
  obtain ⟨y, hy⟩ := bytes_at h
  exact back_core a len cap y w hy
end Go.Proofs.Ytbkjcjkbicaibaa
