/-
  Offer and Step as one contract each. Each statement bears its own conditions.
-/
import Derived.Test.YtkbjonblflhkoaaLnS
namespace Go.Proofs.Ytkbjonblflhkoaa.Ln
open Go.RowKit Go.Proofs.Ytkbjonblflhkoaa.F Go.Proofs.Ytkbjonblflhkoaa.U Go.Proofs.Ytkbjonblflhkoaa.Q
set_option linter.unusedVariables false
set_option linter.unusedSimpArgs false
/-- The error of a message that is offered. -/
def offE (s : SS) (n nk : Nat) : Int := if s.words < (nk : Int) then 2 else if s.room ≤ (n : Int) then 8 else 0
/-- The messages behind one that is offered. -/
def offL (s : SS) (LL : List (List Int)) (K : List Int) : List (List Int) := if offE s LL.length K.length = 0 then LL ++ [K] else LL
/-- Does a frame go out? -/
def stB (s : SS) (LL : List (List Int)) (now : Int) : Bool := !LL.isEmpty && mayV s.gap s.sent s.last now
def stS (s : SS) (LL : List (List Int)) (now : Int) : SS := if stB s LL now = true then ⟨s.gap, s.words, s.room, (s.next + 1).tmod 256, true, now⟩ else s
def stL (s : SS) (LL : List (List Int)) (now : Int) : List (List Int) := if stB s LL now = true then LL.tail else LL
def stN (s : SS) (LL : List (List Int)) (now : Int) : Int := if stB s LL now = true then s.next else 0
def stW (s : SS) (LL : List (List Int)) (now : Int) : List Int := if stB s LL now = true then LL.headD [] else []
/-- The last tick, as the reference has it. -/
def SS.rl (s : SS) : Int := if s.sent = true then s.last else -1
theorem rl_bd {s : SS} (h : s.ok) : -1 ≤ s.rl ∧ s.rl ≤ 1099511627776 := by
  unfold SS.rl
  have := h.l
  split <;> omega
theorem rl_sent {s : SS} (h : s.ok) : decide (0 ≤ s.rl) = s.sent := by
  unfold SS.rl
  have := h.l
  cases hs : s.sent with
  | true => simp; omega
  | false => simp
theorem rl_may {s : SS} (h : s.ok) (now : Int) : mayV s.gap (decide (0 ≤ s.rl)) s.rl now = mayV s.gap s.sent s.last now := by
  rw [rl_sent h]
  unfold mayV SS.rl
  cases hs : s.sent with
  | true => simp
  | false => simp
theorem may_range {gap : Int} {sent : Bool} {last now : Int} (h : mayV gap sent last now = true) : 0 ≤ now ∧ now ≤ 1099511627776 := by
  unfold mayV at h
  simp only [Bool.and_eq_true, decide_eq_true_eq] at h
  exact ⟨h.1, h.2.1⟩
theorem stS_rl {s : SS} {LL : List (List Int)} {now : Int} (hb : stB s LL now = true) : (stS s LL now).rl = now := by
  unfold stS SS.rl
  rw [if_pos hb]; rfl
theorem offer_any (lo : Nat) (p r : Nat → Prop) (g : Nat) (s : SS) (LL : List (List Int)) (P : Nat → Prop) (A : Option Addr) (nk c : Nat) (K : List Int) (w : World) (h : SV lo w p r g s LL) (hv : Sq w P (.slice A nk c) nk (CU K)) (hr : ∀ b, w.heap.size ≤ b → r b) :
    Calls Try.prog 14 #[.pointer (some ⟨g, 0, none⟩), .slice A nk c] w fun e w' => ∃ q, e = .returned (.int .i64 (offE s LL.length nk)) ∧ SV lo w' q r g s (offL s LL K) ∧ Nx p q w w' := by
  have hkn : K.length = nk := by have := hv.len; simpa [CU] using this
  by_cases h1 : s.words < (nk : Int)
  · have he : offE s LL.length nk = 2 := by unfold offE; rw [if_pos h1]
    refine (offer_range lo p r g s LL A nk c w h h1).mono ?_
    rintro e w' ⟨rfl, hw⟩
    rw [hw]
    exact ⟨p, by rw [he], by unfold offL; rw [hkn, he]; exact h, Nx.refl _ _⟩
  by_cases h2 : s.room ≤ (LL.length : Int)
  · have he : offE s LL.length nk = 8 := by unfold offE; rw [if_neg h1, if_pos h2]
    refine (offer_full lo p r g s LL A nk c w h (by omega) (by have := h.bd.1; omega)).mono ?_
    rintro e w' ⟨rfl, b⟩
    exact ⟨p, by rw [he], by unfold offL; rw [hkn, he]; exact h.below b, Nx.of_below b⟩
  · have he : offE s LL.length nk = 0 := by unfold offE; rw [if_neg h1, if_neg h2]
    refine (offer_ok lo p r g s LL P A nk c K w h hv (by omega) (by omega) hr).mono ?_
    rintro e w' ⟨q, rfl, h3, h4⟩
    exact ⟨q, by rw [he], by unfold offL; rw [hkn, if_pos he]; exact h3, h4⟩
theorem roffer_any (s : SS) (next rl : Int) (Ar : Option Addr) (nr cr : Nat) (P PK : Nat → Prop) (S : List Sl) (LM : List (List Int)) (Ak : Option Addr) (nk ck : Nat) (K : List Int) (w : World) (hv : Sq w P (.slice Ar nr cr) nr (CS S)) (hm : Ms w (fun _ => True) S LM) (hml : nr ≤ 1000) (hkq : Sq w PK (.slice Ak nk ck) nk (CU K)) (hnk : nk ≤ 1000) (hcp : nr ≤ cr) :
    Calls Try.prog 29 #[.agg #[.int .i64 s.gap, .int .i64 s.words, .int .i64 s.room, .slice Ar nr cr, .int .i64 next, .int .i64 rl], .slice Ak nk ck] w fun e w' => ∃ A' n' c' S', e = .returned (.tuple #[.agg #[.int .i64 s.gap, .int .i64 s.words, .int .i64 s.room, .slice A' n' c', .int .i64 next, .int .i64 rl], .int .i64 (offE s LM.length nk)]) ∧ Sq w' (fun b => P b ∨ w.heap.size ≤ b) (.slice A' n' c') n' (CS S') ∧ Ms w' (fun _ => True) S' (offL s LM K) ∧ n' ≤ c' ∧ Below w.heap.size w w' := by
  have hkn : K.length = nk := by have := hkq.len; simpa [CU] using this
  have hln : LM.length = nr := by have := hv.len; rw [hm.mr.len2] at this; exact this
  by_cases h1 : s.words < (nk : Int)
  · have he : offE s LM.length nk = 2 := by unfold offE; rw [if_pos h1]
    refine (roffer_range s.gap s.words s.room next rl Ar nr cr Ak nk ck w h1).mono ?_
    rintro e w' ⟨rfl, b⟩
    exact ⟨Ar, nr, cr, S, by rw [he], (hv.belowP b).imp fun b _ hb => .inl hb, by unfold offL; rw [hkn, he]; exact hm.below b, hcp, b⟩
  by_cases h2 : s.room ≤ (nr : Int)
  · have he : offE s LM.length nk = 8 := by unfold offE; rw [if_neg h1, hln, if_pos h2]
    refine (roffer_full s.gap s.words s.room next rl Ar nr cr Ak nk ck w h1 h2).mono ?_
    rintro e w' ⟨rfl, b⟩
    exact ⟨Ar, nr, cr, S, by rw [he], (hv.belowP b).imp fun b _ hb => .inl hb, by unfold offL; rw [hkn, he]; exact hm.below b, hcp, b⟩
  · have he : offE s LM.length nk = 0 := by unfold offE; rw [if_neg h1, hln, if_neg h2]
    refine (roffer_ok s.gap s.words s.room next rl Ar nr cr P _ PK S LM Ak nk ck K w hv hm hml hkq hnk h1 h2).mono ?_
    rintro e w' ⟨A', c', S', rfl, o, m, b⟩
    exact ⟨A', nr + 1, c', S', by rw [he], o.sq.imp fun b _ hb => .inr hb, by unfold offL; rw [hkn, if_pos he]; exact m.imp fun _ _ _ => trivial, ow_cap o, b⟩
theorem step_any (lo : Nat) (p r : Nat → Prop) (g : Nat) (s : SS) (LL : List (List Int)) (now : Int) (w : World) (h : SV lo w p r g s LL) :
    Calls Try.prog 15 #[.pointer (some ⟨g, 0, none⟩), .int .i64 now] w fun e w' => ∃ A0 c0 q, e = .returned (.tuple #[.agg #[.int .i64 (stN s LL now), .slice A0 (stW s LL now).length c0], .bool (stB s LL now)]) ∧ Sq w' r (.slice A0 (stW s LL now).length c0) (stW s LL now).length (CU (stW s LL now)) ∧ SV lo w' q r g (stS s LL now) (stL s LL now) ∧ Nx p q w w' := by
  cases hb : stB s LL now with
  | false =>
    refine (step_no lo p r g s LL now w h ?_).mono ?_
    · unfold stB at hb
      cases LL with
      | nil => exact .inl rfl
      | cons a l => right; simpa using hb
    rintro e w' ⟨rfl, b⟩
    refine ⟨none, 0, p, ?_, ?_, ?_, Nx.of_below b⟩
    · unfold stN stW; rw [hb]; rfl
    · unfold stW; rw [hb]; exact Sq.nil _ _
    · unfold stS stL; rw [hb]; exact h.below b
  | true =>
    match LL, h, hb with
    | [], h, hb => simp [stB] at hb
    | L0 :: LT, h, hb =>
      have hm : mayV s.gap s.sent s.last now = true := by simpa [stB] using hb
      refine (step_some lo p r g s (L0 :: LT) L0 LT now w h rfl hm (may_range hm)).mono ?_
      rintro e w' ⟨A0, c0, q, rfl, o, h3, h4⟩
      have e1 : stW s (L0 :: LT) now = L0 := by unfold stW; rw [hb]; rfl
      refine ⟨A0, c0, q, ?_, ?_, ?_, h4⟩
      · rw [e1]; unfold stN; rw [hb]; rfl
      · rw [e1]; exact o.sq
      · unfold stS stL; rw [hb]; exact h3
theorem rstep_any (s : SS) (hok : s.ok) (Ar : Option Addr) (nr cr : Nat) (P : Nat → Prop) (S : List Sl) (LM : List (List Int)) (now : Int) (w : World) (hv : Sq w P (.slice Ar nr cr) nr (CS S)) (hm : Ms w (fun _ => True) S LM) (hcp : nr ≤ cr) (hml : nr ≤ 1000) (hl : ∀ L ∈ LM, L.length ≤ 1000) :
    Calls Try.prog 31 #[.agg #[.int .i64 s.gap, .int .i64 s.words, .int .i64 s.room, .slice Ar nr cr, .int .i64 s.next, .int .i64 s.rl], .int .i64 now] w fun e w' => ∃ A1 n1 c1 S1 A0 c0, e = .returned (.tuple #[.agg #[.int .i64 s.gap, .int .i64 s.words, .int .i64 s.room, .slice A1 n1 c1, .int .i64 (stS s LM now).next, .int .i64 (stS s LM now).rl], .agg #[.int .i64 (stN s LM now), .slice A0 (stW s LM now).length c0], .bool (stB s LM now)]) ∧ Sq w' (fun b => w.heap.size ≤ b) (.slice A0 (stW s LM now).length c0) (stW s LM now).length (CU (stW s LM now)) ∧ Sq w' P (.slice A1 n1 c1) n1 (CS S1) ∧ Ms w' (fun _ => True) S1 (stL s LM now) ∧ n1 ≤ c1 ∧ Below w.heap.size w w' := by
  have hln : LM.length = nr := by have := hv.len; rw [hm.mr.len2] at this; exact this
  cases hb : stB s LM now with
  | false =>
    refine (rstep_no s.gap s.words s.room s.next s.rl Ar nr cr now w hok.g (rl_bd hok) ?_).mono ?_
    · rw [rl_may hok]
      unfold stB at hb
      cases LM with
      | nil => exact .inl hln.symm
      | cons a l => right; simpa using hb
    rintro e w' ⟨rfl, b⟩
    refine ⟨Ar, nr, cr, S, none, 0, ?_, ?_, hv.belowP b, ?_, hcp, b⟩
    · unfold stN stW stS; rw [hb]; rfl
    · unfold stW; rw [hb]; exact Sq.nil _ _
    · unfold stL; rw [hb]; exact hm.below b
  | true =>
    match LM, hm, hb, hl, hln with
    | [], hm, hb, hl, hln => simp [stB] at hb
    | L0 :: LT, hm, hb, hl, hln =>
      have hma : mayV s.gap s.sent s.last now = true := by simpa [stB] using hb
      have e1 : stW s (L0 :: LT) now = L0 := by unfold stW; rw [hb]; rfl
      have SD := Sq_drop (j := 1) hv (by simp at hln; omega) hcp
      refine (rstep_some s.gap s.words s.room s.next s.rl Ar nr cr P _ S L0 LT now w hv hm hcp hml (hl L0 (List.mem_cons_self ..)) hok.g hok.n (rl_bd hok) (by rw [rl_may hok]; exact hma) _ rfl).mono ?_
      rintro e w' ⟨A7, c7, rfl, o, b⟩
      refine ⟨if cr = 1 then Ar else Ar.map (fun x => x.add 1), nr - 1, cr - 1, S.drop 1, A7, c7, ?_, ?_, ?_, ?_, by omega, b⟩
      · rw [e1, stS_rl hb]; unfold stN stS; rw [hb]; rfl
      · rw [e1]; exact o.sq
      · rw [← CS_drop]; exact SD.belowP b
      · unfold stL; rw [hb]; exact (hm.drop 1).below b
set_option maxRecDepth 100000 in
theorem few_any (A : Option Addr) (n c : Nat) (w : World) (hc : n ≤ c) (hA : A = none → c = 0) : Calls Try.prog 30 #[.slice A n c] w fun e w' => e = .returned (.slice A (min n 40) c) ∧ w' = w := by
  obtain ⟨m, hm⟩ : ∃ m, min n 40 = m := ⟨_, rfl⟩
  have h1 : min (n : Int) 40 = (m : Int) := by omega
  have h2 : (m : Int) ≤ (c : Int) := by omega
  have h3 : (0 : Int) ≤ (m : Int) := by omega
  rw [hm]
  have h4 : m ≤ c := by omega
  clear hm hc
  go_enter Try.func30, Try.ntmps30
  go_wp2_with fail

  go_ret
  exact ⟨rfl, rfl⟩
end Go.Proofs.Ytkbjonblflhkoaa.Ln
