/-
  LinkOnce, what is reckoned: what a receiver holds of frames that come one behind the other by two nets, the one behind the other by a bound.
-/
import Derived.Test.YtkbjonblflhkoaaLnZ
namespace Go.Proofs.Ytkbjonblflhkoaa.Ln
open Go.RowKit Go.Proofs.Ytkbjonblflhkoaa.F Go.Proofs.Ytkbjonblflhkoaa.U Go.Proofs.Ytkbjonblflhkoaa.Q
set_option linter.unusedVariables false
set_option linter.unusedSimpArgs false
theorem shN_bit (A k : Nat) (hk : k < 64) : (shN A).testBit k = (decide (1 ≤ k) && A.testBit (k - 1)) := by
  unfold shN
  rw [show (18446744073709551616 : Nat) = 2 ^ 64 from rfl, Nat.testBit_mod_two_pow, decide_eq_true hk, Bool.true_and]
  rw [show 2 * A = A <<< 1 from by rw [Nat.shiftLeft_eq]; omega, Nat.testBit_shiftLeft]
theorem advA_bit (A : Nat) : ∀ (m k : Nat), k < 64 → (advA A m).testBit k = (decide (m ≤ k) && A.testBit (k - m))
  | 0, k, _ => by simp [advA]
  | m + 1, k, hk => by
    unfold advA
    rw [shN_bit _ _ hk]
    by_cases h1 : 1 ≤ k
    · rw [advA_bit A m (k - 1) (by omega), decide_eq_true h1, Bool.true_and]
      rw [show k - 1 - m = k - (m + 1) by omega]
      congr 1
      rw [decide_eq_decide]; omega
    · rw [decide_eq_false h1, Bool.false_and, decide_eq_false (by omega), Bool.false_and]
/-- What a receiver holds of the frames 0, 1, ..: the newest is N (none yet: -1), 'out d' is 1 where d was taken, 0 where not. -/
structure OnS (r : RcS) (N : Int) (out : Nat → Int) : Prop where
  wd : r.words = 1
  nl : -1 ≤ N
  nw : r.newest = (N + 256).tmod 256
  bt : ∀ k : Nat, k < 64 → (r.arr.testBit k = true ↔ (N - (k : Int) < 0 ∨ out (N - (k : Int)).toNat = 1))
  up : ∀ d : Nat, N < (d : Int) → out d = 0
  ob : ∀ d : Nat, out d = 0 ∨ out d = 1
def updF (out : Nat → Int) (d : Nat) : Nat → Int := fun x => if x = d then 1 else out x
theorem OnS.start (out : Nat → Int) (h : ∀ d, out d = 0) : OnS ⟨1, 255, 18446744073709551615, 0⟩ (-1) out :=
  ⟨rfl, by omega, by decide, fun k hk => by
    have : (18446744073709551615 : Nat).testBit k = true := by
      rw [show (18446744073709551615 : Nat) = 2 ^ 64 - 1 from rfl, Nat.testBit_two_pow_sub_one]; simpa using hk
    simp [this]; left; omega, fun d _ => h d, fun d => .inl (h d)⟩
theorem OnS.tkD_new {r : RcS} {N : Int} {out : Nat → Int} (h : OnS r N out) {d : Nat} (h1 : N < (d : Int)) (h2 : (d : Int) ≤ N + 127) : tkD r ((d : Int).tmod 256) = (d : Int) - N := by
  unfold tkD
  rw [h.nw]
  have := h.nl
  rw [Int.tmod_eq_emod_of_nonneg (a := (d : Int)) (by omega), Int.tmod_eq_emod_of_nonneg (a := N + 256) (by omega), Int.tmod_eq_emod_of_nonneg (by omega)]
  omega
theorem OnS.tkO_old {r : RcS} {N : Int} {out : Nat → Int} (h : OnS r N out) {d : Nat} (h1 : (d : Int) ≤ N) (h2 : N ≤ (d : Int) + 63) : tkO r ((d : Int).tmod 256) = N - (d : Int) ∧ ¬ (1 ≤ tkD r ((d : Int).tmod 256) ∧ tkD r ((d : Int).tmod 256) ≤ 127) := by
  have hD : tkD r ((d : Int).tmod 256) = if N = (d : Int) then 0 else 256 - (N - (d : Int)) := by
    unfold tkD
    rw [h.nw]
    have := h.nl
    rw [Int.tmod_eq_emod_of_nonneg (a := (d : Int)) (by omega), Int.tmod_eq_emod_of_nonneg (a := N + 256) (by omega), Int.tmod_eq_emod_of_nonneg (by omega)]
    split <;> omega
  unfold tkO
  rw [hD]
  split
  · rw [Int.tmod_eq_emod_of_nonneg (by omega)]
    constructor <;> omega
  · rw [Int.tmod_eq_emod_of_nonneg (by omega)]
    constructor <;> omega
theorem num_bd (d : Nat) : 0 ≤ (d : Int).tmod 256 ∧ (d : Int).tmod 256 ≤ 255 := by
  rw [Int.tmod_eq_emod_of_nonneg (by omega)]; omega
/-- A frame that comes: taken where it wasn't yet, else not. -/
theorem OnS.frame {r : RcS} {N : Int} {out : Nat → Int} (h : OnS r N out) {d : Nat} (net : Int) (hn : 0 ≤ net ∧ net ≤ 1) (h1 : N ≤ (d : Int) + 63) (h2 : (d : Int) ≤ N + 127) :
    (out d = 0 → tkE r net ((d : Int).tmod 256) 1 = 0 ∧ OnS (tkR r net ((d : Int).tmod 256) 1) (max N (d : Int)) (updF out d)) ∧ (out d = 1 → ¬ tkE r net ((d : Int).tmod 256) 1 = 0) := by
  have hb := num_bd d
  have hw : ¬ r.words < ((1 : Nat) : Int) := by rw [h.wd]; omega
  by_cases hd : N < (d : Int)
  · have hD := h.tkD_new hd h2
    have hc : 1 ≤ tkD r ((d : Int).tmod 256) ∧ tkD r ((d : Int).tmod 256) ≤ 127 := by rw [hD]; omega
    have hE : tkE r net ((d : Int).tmod 256) 1 = 0 := by unfold tkE; rw [if_pos ⟨hn.1, hn.2, hb.1, hb.2⟩, if_neg hw, if_pos hc]
    refine ⟨fun _ => ⟨hE, ?_⟩, fun h0 => by rw [h.up d hd] at h0; omega⟩
    unfold tkR
    rw [if_pos hE]
    unfold tkS
    rw [if_pos hc, hD, Int.max_eq_right (by omega)]
    obtain ⟨m, hm⟩ : ∃ m : Nat, (m : Int) = (d : Int) - N := ⟨((d : Int) - N).toNat, by omega⟩
    rw [← hm]
    have hnl := h.nl
    refine ⟨h.wd, by omega, ?_, fun k hk => ?_, fun x hx => ?_, fun x => ?_⟩
    · show (r.newest + ((Int.toNat (m : Int)) : Int)).tmod 256 = _
      rw [h.nw, Int.toNat_natCast, Int.tmod_eq_emod_of_nonneg (a := N + 256) (by omega), Int.tmod_eq_emod_of_nonneg (by omega), Int.tmod_eq_emod_of_nonneg (by omega)]
      omega
    · show (advA r.arr (Int.toNat (m : Int)) ||| 1).testBit k = true ↔ _
      rw [Int.toNat_natCast, Nat.testBit_or, advA_bit _ _ _ hk]
      by_cases hk0 : k = 0
      · subst hk0
        have : Nat.testBit 1 0 = true := by decide
        rw [this, Bool.or_true]
        refine ⟨fun _ => .inr ?_, fun _ => rfl⟩
        unfold updF
        rw [if_pos (by omega)]
      · have : Nat.testBit 1 k = false := by rw [Nat.testBit_one_eq_true_iff_self_eq_zero |> fun h => Bool.eq_false_iff.2 (fun e => hk0 (h.1 e))]
        rw [this, Bool.or_false, Bool.and_eq_true, decide_eq_true_eq]
        unfold updF
        by_cases hdk : (d : Int) - (k : Int) < 0
        · refine ⟨fun _ => .inl hdk, fun _ => ?_⟩
          refine ⟨by omega, (h.bt (k - m) (by omega)).2 (.inl (by omega))⟩
        rw [if_neg (by omega)]
        by_cases hmk : m ≤ k
        · rw [h.bt (k - m) (by omega)]
          rw [show N - ((k - m : Nat) : Int) = (d : Int) - (k : Int) by omega]
          exact ⟨fun x => x.2, fun x => ⟨hmk, x⟩⟩
        · refine ⟨fun x => absurd x.1 hmk, fun x => ?_⟩
          rcases x with x | x
          · omega
          · rw [h.up _ (by omega)] at x; omega
    · unfold updF
      rw [if_neg (by omega)]
      exact h.up x (by omega)
    · unfold updF
      split
      · exact .inr rfl
      · exact h.ob x
  · obtain ⟨hO, hc⟩ := h.tkO_old (d := d) (by omega) h1
    have hnl := h.nl
    obtain ⟨m, hm⟩ : ∃ m : Nat, (m : Int) = N - (d : Int) := ⟨(N - (d : Int)).toNat, by omega⟩
    have hbit := h.bt m (by omega)
    rw [show (N - (m : Int)).toNat = d by omega] at hbit
    have h64 : ¬ (64 : Int) ≤ tkO r ((d : Int).tmod 256) := by rw [hO]; omega
    have hto : (tkO r ((d : Int).tmod 256)).toNat = m := by rw [hO]; omega
    refine ⟨fun h0 => ?_, fun h0 => ?_⟩
    · have hE : tkE r net ((d : Int).tmod 256) 1 = 0 := by
        unfold tkE
        rw [if_pos ⟨hn.1, hn.2, hb.1, hb.2⟩, if_neg hw, if_neg hc, if_neg h64, hto, if_neg]
        rw [hbit]; omega
      refine ⟨hE, ?_⟩
      unfold tkR
      rw [if_pos hE]
      unfold tkS
      rw [if_neg hc, hto, Int.max_eq_left (by omega)]
      refine ⟨h.wd, hnl, h.nw, fun k hk => ?_, fun x hx => ?_, fun x => ?_⟩
      · show (r.arr ||| 2 ^ m).testBit k = true ↔ _
        rw [Nat.testBit_or, Nat.testBit_two_pow, Bool.or_eq_true, h.bt k hk, decide_eq_true_eq]
        unfold updF
        by_cases hkm : m = k
        · subst hkm
          rw [if_pos (by omega)]
          simp
        · by_cases hneg : N - (k : Int) < 0
          · simp [hneg]
          · rw [if_neg (by omega)]
            simp [hkm]
      · unfold updF
        rw [if_neg (by omega)]
        exact h.up x (by omega)
      · unfold updF
        split
        · exact .inr rfl
        · exact h.ob x
    · unfold tkE
      rw [if_pos ⟨hn.1, hn.2, hb.1, hb.2⟩, if_neg hw, if_neg hc, if_neg h64, hto, if_pos (hbit.2 (.inr h0))]
      omega
/-- No 61 frames in a row that neither net brings. -/
def GapOk (n : Nat) (hd : Nat → Prop) : Prop := ∀ d, d + 61 ≤ n → ∃ j, d ≤ j ∧ j ≤ d + 60 ∧ hd j
/-- Where the two nets are: before tick t's net k. -/
structure OnP (n lag t k : Nat) (h0 h1 : Nat → Prop) (N : Int) (out : Nat → Int) : Prop where
  nn : N = -1 ∨ (0 ≤ N ∧ N < (n : Int) ∧ out N.toNat = 1)
  ot : ∀ d, d < n → (out d = 1 ↔ (h0 d ∧ (d < t ∨ (d = t ∧ 1 ≤ k))) ∨ (h1 d ∧ (d + lag < t ∨ (d + lag = t ∧ 2 ≤ k))))
theorem OnP.start (n lag : Nat) (h0 h1 : Nat → Prop) (out : Nat → Int) (h : ∀ d, out d = 0) : OnP n lag 0 0 h0 h1 (-1) out :=
  ⟨.inl rfl, fun d _ => by rw [h d]; constructor; · intro x; omega
                           · rintro (⟨_, x⟩ | ⟨_, x⟩) <;> omega⟩
section
variable {n lag t k : Nat} {h0 h1 : Nat → Prop} {N : Int} {out : Nat → Int} {r : RcS}
theorem OnP.le {d : Nat} (o : OnS r N out) (hd : out d = 1) : (d : Int) ≤ N := by
  by_cases h : N < (d : Int)
  · rw [o.up d h] at hd; omega
  · omega
/-- Net 0 brings frame t. -/
theorem OnP.at0 (h : OnP n lag t 0 h0 h1 N out) (o : OnS r N out) (g : GapOk n (fun d => h0 d ∨ h1 d)) (hl : lag ≤ 60) (ht : t < n) : N ≤ (t : Int) + 63 ∧ (t : Int) ≤ N + 127 := by
  refine ⟨?_, ?_⟩
  · rcases h.nn with e | ⟨a, b, c⟩
    · omega
    · rcases (h.ot N.toNat (by omega)).1 c with ⟨_, x⟩ | ⟨_, x⟩ <;> omega
  · have := o.nl
    by_cases hs : t ≤ 126
    · omega
    · obtain ⟨j, j1, j2, j3⟩ := g (t - lag - 61) (by omega)
      have hj : out j = 1 := (h.ot j (by omega)).2 (by rcases j3 with x | x; exact .inl ⟨x, by omega⟩; exact .inr ⟨x, by omega⟩)
      have := OnP.le o hj
      omega
/-- Net 1 brings frame t - lag. -/
theorem OnP.at1 (h : OnP n lag t 1 h0 h1 N out) (o : OnS r N out) (g : GapOk n (fun d => h0 d ∨ h1 d)) (hl : lag ≤ 60) {d : Nat} (hd : d + lag = t) (ht : d < n) : N ≤ (d : Int) + 63 ∧ (d : Int) ≤ N + 127 := by
  refine ⟨?_, ?_⟩
  · rcases h.nn with e | ⟨a, b, c⟩
    · omega
    · rcases (h.ot N.toNat (by omega)).1 c with ⟨_, x⟩ | ⟨_, x⟩ <;> omega
  · have := o.nl
    by_cases hs : d ≤ 126
    · omega
    · obtain ⟨j, j1, j2, j3⟩ := g (d - 61) (by omega)
      have hj : out j = 1 := (h.ot j (by omega)).2 (by rcases j3 with x | x; exact .inl ⟨x, by omega⟩; exact .inr ⟨x, by omega⟩)
      have := OnP.le o hj
      omega
/-- A net that brings nothing. -/
theorem OnP.no0 (h : OnP n lag t 0 h0 h1 N out) (hn : t < n → ¬ h0 t) : OnP n lag t 1 h0 h1 N out :=
  ⟨h.nn, fun d hd => by
    rw [h.ot d hd]
    by_cases e : d = t
    · subst e; have := hn hd; simp [this]
    · constructor <;> rintro (⟨a, b⟩ | ⟨a, b⟩)
      · exact .inl ⟨a, by omega⟩
      · exact .inr ⟨a, by omega⟩
      · exact .inl ⟨a, by omega⟩
      · exact .inr ⟨a, by omega⟩⟩
theorem OnP.no1 (h : OnP n lag t 1 h0 h1 N out) (hn : ∀ d, d + lag = t → d < n → ¬ h1 d) : OnP n lag (t + 1) 0 h0 h1 N out :=
  ⟨h.nn, fun d hd => by
    rw [h.ot d hd]
    constructor <;> rintro (⟨a, b⟩ | ⟨a, b⟩)
    · exact .inl ⟨a, by omega⟩
    · exact .inr ⟨a, by omega⟩
    · exact .inl ⟨a, by omega⟩
    · by_cases e : d + lag = t
      · exact absurd a (hn d e hd)
      · exact .inr ⟨a, by omega⟩⟩
/-- A net that brings one. -/
theorem OnP.yes0 (h : OnP n lag t 0 h0 h1 N out) (ht : t < n) (hy : h0 t) : OnP n lag t 1 h0 h1 (max N (t : Int)) (updF out t) :=
  ⟨.inr ⟨by omega, by rcases h.nn with e | e <;> omega, by
    unfold updF
    split
    · rfl
    · rename_i hne
      rcases h.nn with e | ⟨a, b, c⟩
      · omega
      · rw [show (max N (t : Int)) = N by omega]; exact c⟩, fun d hd => by
    unfold updF
    by_cases e : d = t
    · subst e
      rw [if_pos rfl]
      exact ⟨fun _ => .inl ⟨hy, .inr ⟨rfl, Nat.le_refl _⟩⟩, fun _ => rfl⟩
    · rw [if_neg e, h.ot d hd]
      constructor <;> rintro (⟨a, b⟩ | ⟨a, b⟩)
      · exact .inl ⟨a, by omega⟩
      · exact .inr ⟨a, by omega⟩
      · exact .inl ⟨a, by omega⟩
      · exact .inr ⟨a, by omega⟩⟩
theorem OnP.yes1 (h : OnP n lag t 1 h0 h1 N out) {x : Nat} (hx : x + lag = t) (ht : x < n) (hy : h1 x) : OnP n lag (t + 1) 0 h0 h1 (max N (x : Int)) (updF out x) :=
  ⟨.inr ⟨by omega, by rcases h.nn with e | e <;> omega, by
    unfold updF
    split
    · rfl
    · rename_i hne
      rcases h.nn with e | ⟨a, b, c⟩
      · omega
      · rw [show (max N (x : Int)) = N by omega]; exact c⟩, fun d hd => by
    unfold updF
    by_cases e : d = x
    · subst e
      rw [if_pos rfl]
      exact ⟨fun _ => .inr ⟨hy, .inl (by omega)⟩, fun _ => rfl⟩
    · rw [if_neg e, h.ot d hd]
      constructor <;> rintro (⟨a, b⟩ | ⟨a, b⟩)
      · exact .inl ⟨a, by omega⟩
      · exact .inr ⟨a, by omega⟩
      · exact .inl ⟨a, by omega⟩
      · exact .inr ⟨a, by omega⟩⟩
theorem updF_id {d : Nat} (hy : out d = 1) : updF out d = out := by
  funext x
  unfold updF
  split
  · rename_i e; rw [e, hy]
  · rfl
end
end Go.Proofs.Ytkbjonblflhkoaa.Ln
