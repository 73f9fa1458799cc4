/-
  Put, Send, Back, as one contract each. Each statement bears its own conditions.
-/
import Derived.Test.YtejambofnffopaaQuK
namespace Go.Proofs.Ytejambofnffopaa.Q
open Go.RowKit Go.Proofs.Ytejambofnffopaa.F Go.Proofs.Ytejambofnffopaa.U
set_option linter.unusedVariables false
set_option linter.unusedSimpArgs false
/-- The messages behind one that comes. -/
def sL (n fr full : Int) (LL : List (List Int)) (K : List Int) : List (List Int) := if chkV n fr full [K] = 0 then LL ++ [K] else LL
/-- Was one lost? -/
def sF (n fr full : Int) (lost : Bool) (K : List Int) : Bool := if chkV n fr full [K] = 17 then true else lost
/-- The messages behind some that come back. -/
def bL (n fr : Int) (LL LL' : List (List Int)) : List (List Int) := if chkV n fr 8 LL' = 0 then LL' ++ LL else LL
theorem send_any (lo : Nat) (p r : Nat → Prop) (g : Nat) (n k : Int) (LL : List (List Int)) (lost : Bool) (P : Nat → Prop) (A : Option Addr) (nk c : Nat) (K : List Int) (w : World) (h : QV lo w p r g n k LL lost) (hv : Sq w P (.slice A nk c) nk (CU K)) (hr : ∀ b, w.heap.size ≤ b → r b) :
    Calls Try.prog 14 #[.pointer (some ⟨g, 0, none⟩), .slice A nk c] w fun e w' => ∃ q, e = .returned (.int .i64 (chkV n (k - (LL.length : Int)) 8 [K])) ∧ QV lo w' q r g n k (sL n (k - (LL.length : Int)) 8 LL K) (sF n (k - (LL.length : Int)) 8 lost K) ∧ Nx p q w w' := by
  rcases chk_cases n (k - (LL.length : Int)) 8 K with h2 | h2 | h2
  · refine (send_no lo p r g n k LL lost P A nk c K 2 w h hv h2 (by decide)).mono ?_
    rintro e w' ⟨rfl, b⟩
    exact ⟨p, by rw [h2], by unfold sL sF; rw [h2]; exact h.below b, Nx.of_below b⟩
  · refine (send_no lo p r g n k LL lost P A nk c K 8 w h hv h2 (by decide)).mono ?_
    rintro e w' ⟨rfl, b⟩
    exact ⟨p, by rw [h2], by unfold sL sF; rw [h2]; exact h.below b, Nx.of_below b⟩
  · refine (send_ok lo p r g n k LL lost P A nk c K w h hv h2 hr).mono ?_
    rintro e w' ⟨q, rfl, h3, h4⟩
    exact ⟨q, by rw [h2], by unfold sL sF; rw [h2]; exact h3, h4⟩
theorem chk_back (n fr : Int) (LL : List (List Int)) : chkV n fr 8 LL = 2 ∨ chkV n fr 8 LL = 8 ∨ chkV n fr 8 LL = 0 := by
  unfold chkV
  by_cases h1 : big n LL = true
  · rw [if_pos h1]; exact .inl rfl
  · rw [if_neg h1]
    by_cases h2 : fr < (LL.length : Int)
    · rw [if_pos h2]; exact .inr (.inl rfl)
    · rw [if_neg h2]; exact .inr (.inr rfl)
theorem back_any (lo : Nat) (p r : Nat → Prop) (g : Nat) (n k : Int) (LL : List (List Int)) (lost : Bool) (R P : Nat → Prop) (A : Option Addr) (m c : Nat) (S' : List Sl) (LL' : List (List Int)) (w : World) (h : QV lo w p r g n k LL lost) (hv : Sq w P (.slice A m c) m (CS S')) (hm : Mr w R S' LL') (hml : m ≤ 1000) (hr : ∀ b, w.heap.size ≤ b → r b) :
    Calls Try.prog 21 #[.pointer (some ⟨g, 0, none⟩), .slice A m c] w fun e w' => ∃ q, e = .returned (.int .i64 (chkV n (k - (LL.length : Int)) 8 LL')) ∧ QV lo w' q r g n k (bL n (k - (LL.length : Int)) LL LL') lost ∧ Nx p q w w' := by
  rcases chk_back n (k - (LL.length : Int)) LL' with h2 | h2 | h2
  · refine (back_no lo p r g n k LL lost R P A m c S' LL' 2 w h hv hm hml h2 (by decide)).mono ?_
    rintro e w' ⟨rfl, b⟩
    exact ⟨p, by rw [h2], by unfold bL; rw [h2]; exact h.below b, Nx.of_below b⟩
  · refine (back_no lo p r g n k LL lost R P A m c S' LL' 8 w h hv hm hml h2 (by decide)).mono ?_
    rintro e w' ⟨rfl, b⟩
    exact ⟨p, by rw [h2], by unfold bL; rw [h2]; exact h.below b, Nx.of_below b⟩
  · refine (back_ok lo p r g n k LL lost R P A m c S' LL' w h hv hm hml h2 hr).mono ?_
    rintro e w' ⟨q, rfl, h3, h4⟩
    exact ⟨q, by rw [h2], by unfold bL; rw [h2]; exact h3, h4⟩
theorem rput_any (n k : Int) (Ar : Option Addr) (nr cr : Nat) (lost : Bool) (P : Nat → Prop) (S : List Sl) (LM : List (List Int)) (PK : Nat → Prop) (Ak : Option Addr) (nk ck : Nat) (K : List Int) (pu : Bool) (full : Int) (w : World) (hv : Sq w P (.slice Ar nr cr) nr (CS S)) (hm : Ms w (fun _ => True) S LM) (hml : nr ≤ 1000) (hl : ∀ L ∈ LM, L.length ≤ 1000) (hkq : Sq w PK (.slice Ak nk ck) nk (CU K)) (hnk : nk ≤ 1000) (hle : (nr : Int) ≤ k) (hcp : nr ≤ cr) (hfu : full = if pu = true then 17 else 8) :
    Calls Try.prog 13 #[.agg #[.int .i64 n, .int .i64 k, .slice Ar nr cr, .bool lost], .slice Ak nk ck, .bool pu] w fun e w' => ∃ A' n' c' S', e = .returned (.tuple #[.agg #[.int .i64 n, .int .i64 k, .slice A' n' c', .bool (sF n (k - (nr : Int)) full lost K)], .int .i64 (chkV n (k - (nr : Int)) full [K])]) ∧ Sq w' (fun b => P b ∨ w.heap.size ≤ b) (.slice A' n' c') n' (CS S') ∧ Ms w' (fun _ => True) S' (sL n (k - (nr : Int)) full LM K) ∧ n' ≤ c' ∧ Below w.heap.size w w' := by
  have hlk : K.length = nk := by have := hkq.len; simpa [CU] using this
  by_cases h1 : n < (nk : Int)
  · have hc : chkV n (k - (nr : Int)) full [K] = 2 := by rw [chk_one, if_pos (by rw [hlk]; exact h1)]
    refine (rput_big n k Ar nr cr lost Ak nk ck pu w h1).mono ?_
    rintro e w' ⟨rfl, b⟩
    exact ⟨Ar, nr, cr, S, by unfold sF; rw [hc]; rfl, (hv.belowP b).imp fun b _ hb => .inl hb, by unfold sL; rw [hc]; exact hm.below b, hcp, b⟩
  by_cases h2 : (nr : Int) = k
  · have hc : chkV n (k - (nr : Int)) full [K] = full := by rw [chk_one, if_neg (by rw [hlk]; exact h1), if_pos (by omega)]
    cases pu with
    | false =>
      have hfu : full = 8 := hfu
      subst hfu
      refine (rput_full n k Ar nr cr lost Ak nk ck w h1 h2).mono ?_
      rintro e w' ⟨rfl, b⟩
      exact ⟨Ar, nr, cr, S, by unfold sF; rw [hc]; rfl, (hv.belowP b).imp fun b _ hb => .inl hb, by unfold sL; rw [hc]; exact hm.below b, hcp, b⟩
    | true =>
      have hfu : full = 17 := hfu
      subst hfu
      refine (rput_lost n k Ar nr cr lost Ak nk ck w h1 h2).mono ?_
      rintro e w' ⟨rfl, b⟩
      exact ⟨Ar, nr, cr, S, by unfold sF; rw [hc]; rfl, (hv.belowP b).imp fun b _ hb => .inl hb, by unfold sL; rw [hc]; exact hm.below b, hcp, b⟩
  · have hc : chkV n (k - (nr : Int)) full [K] = 0 := by rw [chk_one, if_neg (by rw [hlk]; exact h1), if_neg (by omega)]
    refine (rput_ok n k Ar nr cr lost P _ PK S LM Ak nk ck K pu w hv hm.mr hml hl hkq hnk h1 h2).mono ?_
    rintro e w' ⟨A', c', S', rfl, o, m, b⟩
    exact ⟨A', nr + 1, c', S', by unfold sF; rw [hc]; rfl, o.sq.imp fun b _ hb => .inr hb, by unfold sL; rw [hc]; exact m.imp fun _ _ _ => trivial, ow_cap o, b⟩
structure BkR (X : Nat) (n k : Int) (Ar : Option Addr) (nr cr : Nat) (lost : Bool) (LL' : List (List Int)) (m : Nat) (w : World) (iv : Value) (wr : World) : Prop where
  ex : ∃ j : Nat, j ≤ m ∧ iv = .int .i64 (j : Int) ∧ big n (LL'.take j) = false ∧ wr.heap[X]? = some (.cells #[.int .i64 n, .int .i64 k, .slice Ar nr cr, .bool lost] 29 (0, 0)) ∧ wr.heap[X + 1]? = some (.cells #[.int .i64 0, .int .i64 0, .slice none 0 0, .bool false] 29 (0, 0)) ∧ Below X w wr ∧ X + 2 ≤ wr.heap.size
set_option maxRecDepth 100000 in
set_option maxHeartbeats 16000000 in
theorem rback_any (n k : Int) (Ar : Option Addr) (nr cr : Nat) (lost : Bool) (P : Nat → Prop) (S : List Sl) (LM : List (List Int)) (P' R' : Nat → Prop) (A : Option Addr) (m c : Nat) (S' : List Sl) (LL' : List (List Int)) (w : World) (hv : Sq w P (.slice Ar nr cr) nr (CS S)) (hm : Ms w (fun _ => True) S LM) (hml : nr ≤ 1000) (hl : ∀ L ∈ LM, L.length ≤ 1000) (hv' : Sq w P' (.slice A m c) m (CS S')) (hm' : Mr w R' S' LL') (hml' : m ≤ 1000) (hl' : ∀ L ∈ LL', L.length ≤ 1000) (hcp : nr ≤ cr) :
    Calls Try.prog 20 #[.agg #[.int .i64 n, .int .i64 k, .slice Ar nr cr, .bool lost], .slice A m c] w fun e w' => ∃ A' n' c' S2, e = .returned (.tuple #[.agg #[.int .i64 n, .int .i64 k, .slice A' n' c', .bool lost], .int .i64 (chkV n (k - (nr : Int)) 8 LL')]) ∧ Sq w' (fun b => P b ∨ w.heap.size ≤ b) (.slice A' n' c') n' (CS S2) ∧ Ms w' (fun _ => True) S2 (bL n (k - (nr : Int)) LM LL') ∧ n' ≤ c' ∧ Below w.heap.size w w' := by
  obtain ⟨i0, hi, hz0, hz1, hz2⟩ := info_of sl_info
  have hmm : LL'.length = m := by have := hv'.len; rw [hm'.len2] at this; exact this
  obtain ⟨X, hX⟩ : ∃ X, w.heap.size = X := ⟨_, rfl⟩
  obtain ⟨W0, hW0⟩ : ∃ W0, (w.alloc (.cells #[.int .i64 n, .int .i64 k, .slice Ar nr cr, .bool lost] 29)).alloc (.cells #[.int .i64 0, .int .i64 0, .slice none 0 0, .bool false] 29) = W0 := ⟨_, rfl⟩
  have B0 : Hid (Below X w W0) := by rw [← hW0, ← hX]; exact (((Below.refl _ _).alloc (Nat.le_refl _) _).alloc (by simp) _)
  have S0 : Hid (W0.heap.size = X + 2) := by unfold Hid; rw [← hW0, ← hX]; simp
  have HX0 : Hid (W0.heap[X]? = some (.cells #[.int .i64 n, .int .i64 k, .slice Ar nr cr, .bool lost] 29 (0, 0))) := by
    rw [← hW0, ← hX]; exact (((Below.refl _ _).alloc (Nat.le_refl _) _).block _ (by simp)).trans (heap_alloc_new _ _)
  have HY0 : Hid (W0.heap[X + 1]? = some (.cells #[.int .i64 0, .int .i64 0, .slice none 0 0, .bool false] 29 (0, 0))) := by
    rw [← hW0, ← hX]; have := heap_alloc_new (w.alloc (.cells #[.int .i64 n, .int .i64 k, .slice Ar nr cr, .bool lost] 29)) (.cells #[.int .i64 0, .int .i64 0, .slice none 0 0, .bool false] 29); unfold Hid; simpa using this
  have HXW := Lib.hid hX
  have HR := Lib.hid hv
  have HS := Lib.hid hm
  have HV := Lib.hid hv'
  have HM := Lib.hid hm'
  have HN : Hid (m ≤ 1000 ∧ nr ≤ 1000 ∧ (∀ L ∈ LL', L.length ≤ 1000) ∧ ∀ L ∈ LM, L.length ≤ 1000) := ⟨hml', hml, hl', hl⟩
  have HN0 : Hid (LL'.length = m) := hmm
  have HCP := Lib.hid hcp
  have x0 : W0.cell? ⟨X, 0, none⟩ = some (.int .i64 n) := by rw [(row_cell HX0.out 0).1]; rfl
  have xf0 : W0.frozen? ⟨X, 0, none⟩ = false := (row_cell HX0.out 0).2
  have x1 : W0.cell? ⟨X, 1, none⟩ = some (.int .i64 k) := by rw [(row_cell HX0.out 1).1]; rfl
  have xf1 : W0.frozen? ⟨X, 1, none⟩ = false := (row_cell HX0.out 1).2
  have x2 : W0.cell? ⟨X, 2, none⟩ = some (.slice Ar nr cr) := by rw [(row_cell HX0.out 2).1]; rfl
  have xf2 : W0.frozen? ⟨X, 2, none⟩ = false := (row_cell HX0.out 2).2
  have x3 : W0.cell? ⟨X, 3, none⟩ = some (.bool lost) := by rw [(row_cell HX0.out 3).1]; rfl
  have xf3 : W0.frozen? ⟨X, 3, none⟩ = false := (row_cell HX0.out 3).2
  have y0 : W0.cell? ⟨X + 1, 0, none⟩ = some (.int .i64 0) := by rw [(row_cell HY0.out 0).1]; rfl
  have yf0 : W0.frozen? ⟨X + 1, 0, none⟩ = false := (row_cell HY0.out 0).2
  have y1 : W0.cell? ⟨X + 1, 1, none⟩ = some (.int .i64 0) := by rw [(row_cell HY0.out 1).1]; rfl
  have yf1 : W0.frozen? ⟨X + 1, 1, none⟩ = false := (row_cell HY0.out 1).2
  have y2 : W0.cell? ⟨X + 1, 2, none⟩ = some (.slice none 0 0) := by rw [(row_cell HY0.out 2).1]; rfl
  have yf2 : W0.frozen? ⟨X + 1, 2, none⟩ = false := (row_cell HY0.out 2).2
  have y3 : W0.cell? ⟨X + 1, 3, none⟩ = some (.bool false) := by rw [(row_cell HY0.out 3).1]; rfl
  have yf3 : W0.frozen? ⟨X + 1, 3, none⟩ = false := (row_cell HY0.out 3).2
  rw [hX]
  have hm1000 : (m : Int) ≤ 1000 := by omega
  have hr1000 : (nr : Int) ≤ 1000 := by omega
  clear hv hm hml hl hv' hm' hml' hl' hmm hcp
  go_enter Try.func20, Try.ntmps20
  go_wp2_with fail
  go_loopw [6] (fun iv wr => BkR X n k Ar nr cr lost LL' m w iv wr) (fun i _ => m - (intOf i).toNat)
  case atStart => exact ⟨⟨0, Nat.zero_le _, rfl, rfl, HX0.out, HY0.out, B0.out, by have := S0.out; omega⟩⟩
  case round =>
    obtain ⟨⟨j, hj, rfl, hbg, hxr, hyr, hb, hsz⟩⟩ := hrel
    have HXR := Lib.hid hxr
    have HYR := Lib.hid hyr
    have HB := Lib.hid hb
    have HB1 : Hid (Below w.heap.size w wr) := by rw [HXW.out]; exact hb
    have HSZ := Lib.hid hsz
    have HG := Lib.hid hbg
    clear hxr hyr hb hsz hbg x0 xf0 y0 yf0 x1 xf1 y1 yf1 x2 xf2 y2 yf2 x3 xf3 y3 yf3
    have x0 : wr.cell? ⟨X, 0, none⟩ = some (.int .i64 n) := by rw [(row_cell HXR.out 0).1]; rfl
    have xf0 : wr.frozen? ⟨X, 0, none⟩ = false := (row_cell HXR.out 0).2
    have x1 : wr.cell? ⟨X, 1, none⟩ = some (.int .i64 k) := by rw [(row_cell HXR.out 1).1]; rfl
    have xf1 : wr.frozen? ⟨X, 1, none⟩ = false := (row_cell HXR.out 1).2
    have x2 : wr.cell? ⟨X, 2, none⟩ = some (.slice Ar nr cr) := by rw [(row_cell HXR.out 2).1]; rfl
    have xf2 : wr.frozen? ⟨X, 2, none⟩ = false := (row_cell HXR.out 2).2
    have x3 : wr.cell? ⟨X, 3, none⟩ = some (.bool lost) := by rw [(row_cell HXR.out 3).1]; rfl
    have xf3 : wr.frozen? ⟨X, 3, none⟩ = false := (row_cell HXR.out 3).2
    have y0 : wr.cell? ⟨X + 1, 0, none⟩ = some (.int .i64 0) := by rw [(row_cell HYR.out 0).1]; rfl
    have yf0 : wr.frozen? ⟨X + 1, 0, none⟩ = false := (row_cell HYR.out 0).2
    have y1 : wr.cell? ⟨X + 1, 1, none⟩ = some (.int .i64 0) := by rw [(row_cell HYR.out 1).1]; rfl
    have yf1 : wr.frozen? ⟨X + 1, 1, none⟩ = false := (row_cell HYR.out 1).2
    have y2 : wr.cell? ⟨X + 1, 2, none⟩ = some (.slice none 0 0) := by rw [(row_cell HYR.out 2).1]; rfl
    have yf2 : wr.frozen? ⟨X + 1, 2, none⟩ = false := (row_cell HYR.out 2).2
    have y3 : wr.cell? ⟨X + 1, 3, none⟩ = some (.bool false) := by rw [(row_cell HYR.out 3).1]; rfl
    have yf3 : wr.frozen? ⟨X + 1, 3, none⟩ = false := (row_cell HYR.out 3).2
    by_cases hlt : j < m
    rotate_left
    · have hjm : j = m := by omega
      subst hjm
      have HBG : Hid (big n LL' = false) := by
        have h1 := HG.out
        rwa [List.take_of_length_le (by have := HN0.out; omega)] at h1
      have hjI : ¬ (j : Int) < (j : Int) := by omega
      clear hlt hj
      by_cases hfit : k < (nr : Int) + (j : Int)
      · have hc : chkV n (k - (nr : Int)) 8 LL' = 8 := by have h1 := HBG.out; unfold chkV; rw [h1, if_neg (by simp), if_pos (by have := HN0.out; omega)]
        have HC := Lib.hid hc
        have hfb : decide (k < (nr : Int) + (j : Int)) = true := by simpa using hfit
        clear hc
        go_wp2_with fail
        refine bodyPost_ret (results_cell_tmp rfl _ _ (X + 1) _ _ rfl (set_four HYR.out _ _ _ _) Try.underlying29 rfl (by kernel_rfl)) rfl ?_
        have hf : Fo (fun b => b = X ∨ b = X + 1) wr ((((wr.setCell ⟨X + 1, 0, none⟩ (.int .i64 n)).setCell ⟨X + 1, 1, none⟩ (.int .i64 k)).setCell ⟨X + 1, 2, none⟩ (.slice Ar nr cr)).setCell ⟨X + 1, 3, none⟩ (.bool lost)) := ((((Fo.refl _ wr).setCell (.inl (.inr rfl)) 0 _).setCell (.inl (.inr rfl)) 1 _).setCell (.inl (.inr rfl)) 2 _).setCell (.inl (.inr rfl)) 3 _
        have bF : Below w.heap.size w ((((wr.setCell ⟨X + 1, 0, none⟩ (.int .i64 n)).setCell ⟨X + 1, 1, none⟩ (.int .i64 k)).setCell ⟨X + 1, 2, none⟩ (.slice Ar nr cr)).setCell ⟨X + 1, 3, none⟩ (.bool lost)) := by rw [HXW.out]; exact ((((HB.out.setCell (by exact Nat.le_succ _) _).setCell (by exact Nat.le_succ _) _).setCell (by exact Nat.le_succ _) _).setCell (by exact Nat.le_succ _) _)
        have R1 : Sq ((((wr.setCell ⟨X + 1, 0, none⟩ (.int .i64 n)).setCell ⟨X + 1, 1, none⟩ (.int .i64 k)).setCell ⟨X + 1, 2, none⟩ (.slice Ar nr cr)).setCell ⟨X + 1, 3, none⟩ (.bool lost)) (fun b => P b ∨ X ≤ b) (.slice Ar nr cr) nr (CS S) := (HR.out.belowP bF).imp fun b _ hb => .inl hb
        have R2 : Ms ((((wr.setCell ⟨X + 1, 0, none⟩ (.int .i64 n)).setCell ⟨X + 1, 1, none⟩ (.int .i64 k)).setCell ⟨X + 1, 2, none⟩ (.slice Ar nr cr)).setCell ⟨X + 1, 3, none⟩ (.bool lost)) (fun _ => True) S (bL n (k - (nr : Int)) LM LL') := by unfold bL; rw [if_neg (by rw [HC.out]; decide)]; exact HS.out.below bF
        rw [HC.out]
        rw [HXW.out] at bF
        first | exact ⟨Ar, nr, cr, S, rfl, R1, R2, HCP.out, bF⟩ | exact ⟨Ar, nr, cr, rfl, ⟨S, R1, R2⟩, HCP.out, bF⟩ | exact ⟨Ar, nr, cr, rfl, S, R1, R2, HCP.out, bF⟩
      have hfb : decide (k < (nr : Int) + (j : Int)) = false := by simpa using hfit
      have HFIT : Hid (¬ k < (nr : Int) + (j : Int)) := hfit
      clear hfit
      go_wp2_with fail
      refine wp_region_held_drew (S := (fun _ => True)) (by kernel_rfl) trivial (fun hHeld => ?_)
      clear hHeld
      refine takeD (i := 0) (d := some 32) (v := ?_) _ rfl rfl (by kernel_rfl) (by kernel_rfl) (by kernel_rfl) (fun _ _ _ h => h) (by rfl) ?_ trivial ?_
      rotate_left
      · (intro w hSw; (try dsimp only at hSw); go_simp) <;> with_reducible rfl
      try simp only [Act.put, List.setIfInBounds_toArray, List.set_cons_zero, List.set_cons_succ]
      refine takeD (i := 2) (d := some 34) (v := ?_) _ rfl rfl (by kernel_rfl) (by kernel_rfl) (by kernel_rfl) (fun _ _ _ h => h) (by rfl) ?_ trivial ?_
      rotate_left
      · (intro w hSw; (try dsimp only at hSw); go_simp) <;> with_reducible rfl
      try simp only [Act.put, List.setIfInBounds_toArray, List.set_cons_zero, List.set_cons_succ]
      obtain ⟨V, hV⟩ : ∃ V, wr.drew = V := ⟨_, rfl⟩
      have B_V : Hid (Below wr.heap.size wr V) := by rw [← hV]; exact (Below.refl _ _).drew
      have H2 : Hid (∀ W, Below (X + 2) wr W → W.cell? ⟨X, 2, none⟩ = some (.slice Ar nr cr)) := fun W hb => (hb.cell (by show X < X + 2; omega)).trans x2
      simp only [hV]
      clear hV
      have BX_V : Hid (Below (X + 2) wr V) := B_V.out.mono HSZ.out
      clear x0 xf0 y0 yf0 x1 xf1 y1 yf1 x2 xf2 y2 yf2 x3 xf3 y3 yf3
      refine wpAnyH_ready (rs := [1, 3]) (by kernel_rfl) (by simp) ?_
      refine AllReadyH.cons rfl (fun K0 hK => ?_) (AllReadyH.cons rfl (fun K0 hK => ?_) (AllReadyH.nil))
      · try go_simp
        go_at_call 27
        refine (copies_any P' R' A j c S' LL' V ((HV.out.belowP HB1.out).belowP B_V.out) ((HM.out.below HB1.out).below B_V.out) HN.out.1 HN.out.2.2.1).mono ?_
        rintro e wa ⟨va, Sa, rfl, oa, ma, ba⟩
        obtain ⟨Aa, ca, rfl⟩ := oa.sl
        have Oa := Lib.hid oa
        have Ma := Lib.hid ma
        have Fa := Lib.hid ba
        clear oa ma ba
        try go_wp2_with fail
        have BX_a : Hid (Below (X + 2) wr wa) := BX_V.out.trans (Fa.out.mono (Nat.le_trans HSZ.out B_V.out.size))
        refine hK.out _ _ trivial (fun _ => ?_)
        clear hK K0
        try simp only [Act.put, List.getElem_toArray, List.getElem_cons_succ, List.getElem_cons_zero, List.setIfInBounds_toArray, List.set_cons_zero, List.set_cons_succ]
        refine wpAnyH_ready (rs := [3]) (by kernel_rfl) (by simp) ?_
        refine AllReadyH.cons rfl (fun K0 hK => ?_) (AllReadyH.nil)
        have l0 := H2.out wa BX_a.out
        try go_simp
        refine hK.out _ _ trivial (fun _ => ?_)
        clear l0
        clear hK K0
        try simp only [Act.put, List.getElem_toArray, List.getElem_cons_succ, List.getElem_cons_zero, List.setIfInBounds_toArray, List.set_cons_zero, List.set_cons_succ]
        have SR : Hid (Sq wa P (.slice Ar nr cr) nr (CS S)) := (((HR.out.belowP HB1.out).belowP B_V.out).belowP Fa.out)
        have MR : Hid (Ms wa (fun _ => True) S LM) := (((HS.out.below HB1.out).below B_V.out).below Fa.out)
        refine wpAnyH_ready (rs := [4]) (by kernel_rfl) (by simp) ?_
        refine AllReadyH.cons rfl (fun K0 hK => ?_) (AllReadyH.nil)
        try go_simp
        go_at_call 27
        refine (copies_any P _ Ar nr cr S LM wa SR.out MR.out.mr HN.out.2.1 HN.out.2.2.2).mono ?_
        rintro e wb ⟨vb, Sb, rfl, ob, mb, bb⟩
        obtain ⟨Ab, cb, rfl⟩ := ob.sl
        have Ob := Lib.hid ob
        have Mb := Lib.hid mb
        have Fb := Lib.hid bb
        clear ob mb bb
        try go_wp2_with fail
        have BX_b : Hid (Below (X + 2) wr wb) := BX_a.out.trans (Fb.out.mono (by have := Fa.out.size; have := B_V.out.size; have := HSZ.out; omega))
        have Ob1 : Hid (Ow 33 wb (fun b => V.heap.size ≤ b) (.slice Aa j ca) j (CS Sa)) := Oa.out.below Fb.out
        have Mb1 : Hid (Ms wb (fun b => V.heap.size ≤ b) Sa LL') := Ma.out.below Fb.out
        have Mb2 : Hid (Ms wb (fun b => V.heap.size ≤ b) Sb LM) := Mb.out.imp fun b _ hb => by have := Fa.out.size; omega
        have RD : Hid (Reads wb wb.heap.size 1 Ab nr (CS Sb)) := (Ob.out.sq.st.reads).2
        have HVS : Hid (X + 2 ≤ V.heap.size ∧ V.heap.size ≤ wb.heap.size) := ⟨Nat.le_trans HSZ.out B_V.out.size, Nat.le_trans Fa.out.size Fb.out.size⟩
        refine hK.out _ _ trivial (fun _ => ?_)
        clear hK K0
        try simp only [Act.put, List.getElem_toArray, List.getElem_cons_succ, List.getElem_cons_zero, List.setIfInBounds_toArray, List.set_cons_zero, List.set_cons_succ]
        refine wpAnyH_ready (rs := [5]) (by kernel_rfl) (by simp) ?_
        refine AllReadyH.cons rfl (fun K0 hK => ?_) (AllReadyH.nil)
        refine wp_append_any wb (.tmp 33) (.tmp 36) 27 rfl 0 33 i0 (.slice none 0 0) 1 24 Try.underlying27 hi hz0 hz1 hz2 rfl (by decide) (.slice Aa j ca) j (CS Sa) rfl Ob1.out.own wb.heap.size Ab nr cb (CS Sb) rfl RD.out (CS_one _) (by have := HN.out; unfold maxLen; omega) (by have := HN.out; omega) (Nat.zero_le _) ?_
        intro v2 w5 hown hgrow hblk
        obtain ⟨A2, c2, rfl⟩ := slice_form hown
        have G := Ob1.out.grow hown hgrow hblk
        have O5 : Hid (Ow 33 w5 (fun b => X + 2 ≤ b) (.slice A2 (j + nr) c2) (j + nr) (CS (Sa ++ Sb))) := by
          have h1 := G.1.imp (q := fun b => X + 2 ≤ b) fun b _ hb => by
            rcases hb with hb | hb
            · have := HVS.out; omega
            · have := HVS.out; omega
          unfold Hid
          rw [CS_app]; exact h1
        have hty := Ob1.out.tyb
        have hfo : Fo (fun b => (Value.slice Aa j ca).ownBlock = some b) wb w5 := ⟨hgrow.os, hgrow.tape, hgrow.output, hgrow.size, fun k hk hn => hgrow.block k hk (fun e => hn e.symm)⟩
        have M5 : Hid (Ms w5 (fun b => X + 2 ≤ b) (Sa ++ Sb) (LL' ++ LM)) := ((Mb1.out.app Mb2.out).fot hfo hty).imp fun b _ hb => by have := HVS.out; omega
        have B5 : Hid (Below (X + 2) wr w5) := BX_b.out.trans (G.2.below (fun b hb => by have := HVS.out; omega) (by have := HVS.out; omega))
        clear hown hgrow hblk G hty hfo
        refine hK.out _ _ trivial (fun _ => ?_)
        clear hK K0
        try simp only [Act.put, List.getElem_toArray, List.getElem_cons_succ, List.getElem_cons_zero, List.setIfInBounds_toArray, List.set_cons_zero, List.set_cons_succ]
        refine takeD (i := 6) (d := some 38) (v := ?_) _ rfl rfl (by kernel_rfl) (by kernel_rfl) (by kernel_rfl) (fun _ _ _ h => h) (by rfl) ?_ trivial ?_
        rotate_left
        · (intro w hSw; (try dsimp only at hSw); go_simp) <;> with_reducible rfl
        try simp only [Act.put, List.setIfInBounds_toArray, List.set_cons_zero, List.set_cons_succ]
        have X5 : Hid (w5.heap[X]? = some (.cells #[.int .i64 n, .int .i64 k, .slice Ar nr cr, .bool lost] 29 (0, 0))) := (B5.out.block X (by omega)).trans HXR.out
        have Y5 : Hid (w5.heap[X + 1]? = some (.cells #[.int .i64 0, .int .i64 0, .slice none 0 0, .bool false] 29 (0, 0))) := (B5.out.block (X + 1) (by omega)).trans HYR.out
        obtain ⟨W3, hW3⟩ : ∃ W3, w5.setCell ⟨X, 2, none⟩ (.slice A2 (j + nr) c2) = W3 := ⟨_, rfl⟩
        have X3 : Hid (W3.heap[X]? = some (.cells #[.int .i64 n, .int .i64 k, .slice A2 (j + nr) c2, .bool lost] 29 (0, 0))) := by rw [← hW3]; exact set_at X5.out 2 _
        have Y3 : Hid (W3.heap[X + 1]? = some (.cells #[.int .i64 0, .int .i64 0, .slice none 0 0, .bool false] 29 (0, 0))) := by rw [← hW3]; exact (set_far 2 _ (by omega)).trans Y5.out
        have B3 : Hid (Below X w W3) := by rw [← hW3]; exact (HB.out.trans (B5.out.mono (by omega))).setCell (Nat.le_refl _) _
        have hf3 : Fo (fun b => b = X ∨ b = X + 1) w5 W3 := by rw [← hW3]; exact (Fo.refl _ _).setCell (.inl (.inl rfl)) 2 _
        have O3 : Hid (Ow 33 W3 (fun b => X + 2 ≤ b) (.slice A2 (j + nr) c2) (j + nr) (CS (Sa ++ Sb))) := O5.out.fo hf3 (fun b hb e => by omega)
        have M3 : Hid (Ms W3 (fun b => X + 2 ≤ b) (Sa ++ Sb) (LL' ++ LM)) := M5.out.fo hf3 (fun b hb e => by omega)
        clear hf3
        have p0 : w5.cell? ⟨X, 0, none⟩ = some (.int .i64 n) := by rw [(row_cell X5.out 0).1]; rfl
        have pf0 : w5.frozen? ⟨X, 0, none⟩ = false := (row_cell X5.out 0).2
        have p1 : w5.cell? ⟨X, 1, none⟩ = some (.int .i64 k) := by rw [(row_cell X5.out 1).1]; rfl
        have pf1 : w5.frozen? ⟨X, 1, none⟩ = false := (row_cell X5.out 1).2
        have p2 : w5.cell? ⟨X, 2, none⟩ = some (.slice Ar nr cr) := by rw [(row_cell X5.out 2).1]; rfl
        have pf2 : w5.frozen? ⟨X, 2, none⟩ = false := (row_cell X5.out 2).2
        have p3 : w5.cell? ⟨X, 3, none⟩ = some (.bool lost) := by rw [(row_cell X5.out 3).1]; rfl
        have pf3 : w5.frozen? ⟨X, 3, none⟩ = false := (row_cell X5.out 3).2
        have r0 : W3.cell? ⟨X, 0, none⟩ = some (.int .i64 n) := by rw [(row_cell X3.out 0).1]; rfl
        have rf0 : W3.frozen? ⟨X, 0, none⟩ = false := (row_cell X3.out 0).2
        have r1 : W3.cell? ⟨X, 1, none⟩ = some (.int .i64 k) := by rw [(row_cell X3.out 1).1]; rfl
        have rf1 : W3.frozen? ⟨X, 1, none⟩ = false := (row_cell X3.out 1).2
        have r2 : W3.cell? ⟨X, 2, none⟩ = some (.slice A2 (j + nr) c2) := by rw [(row_cell X3.out 2).1]; rfl
        have rf2 : W3.frozen? ⟨X, 2, none⟩ = false := (row_cell X3.out 2).2
        have r3 : W3.cell? ⟨X, 3, none⟩ = some (.bool lost) := by rw [(row_cell X3.out 3).1]; rfl
        have rf3 : W3.frozen? ⟨X, 3, none⟩ = false := (row_cell X3.out 3).2
        have s0 : W3.cell? ⟨X + 1, 0, none⟩ = some (.int .i64 0) := by rw [(row_cell Y3.out 0).1]; rfl
        have sf0 : W3.frozen? ⟨X + 1, 0, none⟩ = false := (row_cell Y3.out 0).2
        have s1 : W3.cell? ⟨X + 1, 1, none⟩ = some (.int .i64 0) := by rw [(row_cell Y3.out 1).1]; rfl
        have sf1 : W3.frozen? ⟨X + 1, 1, none⟩ = false := (row_cell Y3.out 1).2
        have s2 : W3.cell? ⟨X + 1, 2, none⟩ = some (.slice none 0 0) := by rw [(row_cell Y3.out 2).1]; rfl
        have sf2 : W3.frozen? ⟨X + 1, 2, none⟩ = false := (row_cell Y3.out 2).2
        have s3 : W3.cell? ⟨X + 1, 3, none⟩ = some (.bool false) := by rw [(row_cell Y3.out 3).1]; rfl
        have sf3 : W3.frozen? ⟨X + 1, 3, none⟩ = false := (row_cell Y3.out 3).2
        refine wpAnyH_ready (rs := [7]) (by kernel_rfl) (by simp) ?_
        refine AllReadyH.cons rfl (fun K0 hK => ?_) (AllReadyH.nil)
        try go_simp
        refine hK.out _ _ trivial (fun _ => ?_)
        clear hK K0
        try simp only [Act.put, List.getElem_toArray, List.getElem_cons_succ, List.getElem_cons_zero, List.setIfInBounds_toArray, List.set_cons_zero, List.set_cons_succ]
        refine wpAnyH_done (by kernel_rfl) ?_ _
        go_wp2_with fail
        refine bodyPost_ret (results_cell_tmp rfl _ _ (X + 1) _ _ rfl (set_four Y3.out _ _ _ _) Try.underlying29 rfl (by kernel_rfl)) rfl ?_
        have hf : Fo (fun b => b = X ∨ b = X + 1) W3 ((((W3.setCell ⟨X + 1, 0, none⟩ (.int .i64 n)).setCell ⟨X + 1, 1, none⟩ (.int .i64 k)).setCell ⟨X + 1, 2, none⟩ (.slice A2 (j + nr) c2)).setCell ⟨X + 1, 3, none⟩ (.bool lost)) := ((((Fo.refl _ W3).setCell (.inl (.inr rfl)) 0 _).setCell (.inl (.inr rfl)) 1 _).setCell (.inl (.inr rfl)) 2 _).setCell (.inl (.inr rfl)) 3 _
        have O4 := O3.out.fo hf (fun b hb e => by omega)
        have M4 := M3.out.fo hf (fun b hb e => by omega)
        have hc : chkV n (k - (nr : Int)) 8 LL' = 0 := by have h1 := HBG.out; unfold chkV; rw [h1, if_neg (by simp), if_neg (by have := HFIT.out; have := HN0.out; omega)]
        have R1 : Sq ((((W3.setCell ⟨X + 1, 0, none⟩ (.int .i64 n)).setCell ⟨X + 1, 1, none⟩ (.int .i64 k)).setCell ⟨X + 1, 2, none⟩ (.slice A2 (j + nr) c2)).setCell ⟨X + 1, 3, none⟩ (.bool lost)) (fun b => P b ∨ X ≤ b) (.slice A2 (j + nr) c2) (j + nr) (CS (Sa ++ Sb)) := O4.sq.imp fun b _ hb => .inr (by omega)
        have R2 : Ms ((((W3.setCell ⟨X + 1, 0, none⟩ (.int .i64 n)).setCell ⟨X + 1, 1, none⟩ (.int .i64 k)).setCell ⟨X + 1, 2, none⟩ (.slice A2 (j + nr) c2)).setCell ⟨X + 1, 3, none⟩ (.bool lost)) (fun _ => True) (Sa ++ Sb) (bL n (k - (nr : Int)) LM LL') := by unfold bL; rw [if_pos hc]; exact M4.imp fun _ _ _ => trivial
        rw [hc]
        first | exact ⟨A2, j + nr, c2, Sa ++ Sb, rfl, R1, R2, ow_cap O4, ((((B3.out.setCell (by exact Nat.le_succ _) _).setCell (by exact Nat.le_succ _) _).setCell (by exact Nat.le_succ _) _).setCell (by exact Nat.le_succ _) _)⟩ | exact ⟨A2, j + nr, c2, rfl, ⟨Sa ++ Sb, R1, R2⟩, ow_cap O4, ((((B3.out.setCell (by exact Nat.le_succ _) _).setCell (by exact Nat.le_succ _) _).setCell (by exact Nat.le_succ _) _).setCell (by exact Nat.le_succ _) _)⟩ | exact ⟨A2, j + nr, c2, rfl, Sa ++ Sb, R1, R2, ow_cap O4, ((((B3.out.setCell (by exact Nat.le_succ _) _).setCell (by exact Nat.le_succ _) _).setCell (by exact Nat.le_succ _) _).setCell (by exact Nat.le_succ _) _)⟩
      · have l0 := H2.out V BX_V.out
        try go_simp
        refine hK.out _ _ trivial (fun _ => ?_)
        clear l0
        clear hK K0
        try simp only [Act.put, List.getElem_toArray, List.getElem_cons_succ, List.getElem_cons_zero, List.setIfInBounds_toArray, List.set_cons_zero, List.set_cons_succ]
        refine wpAnyH_ready (rs := [1]) (by kernel_rfl) (by simp) ?_
        refine AllReadyH.cons rfl (fun K0 hK => ?_) (AllReadyH.nil)
        try go_simp
        go_at_call 27
        refine (copies_any P' R' A j c S' LL' V ((HV.out.belowP HB1.out).belowP B_V.out) ((HM.out.below HB1.out).below B_V.out) HN.out.1 HN.out.2.2.1).mono ?_
        rintro e wa ⟨va, Sa, rfl, oa, ma, ba⟩
        obtain ⟨Aa, ca, rfl⟩ := oa.sl
        have Oa := Lib.hid oa
        have Ma := Lib.hid ma
        have Fa := Lib.hid ba
        clear oa ma ba
        try go_wp2_with fail
        have BX_a : Hid (Below (X + 2) wr wa) := BX_V.out.trans (Fa.out.mono (Nat.le_trans HSZ.out B_V.out.size))
        refine hK.out _ _ trivial (fun _ => ?_)
        clear hK K0
        try simp only [Act.put, List.getElem_toArray, List.getElem_cons_succ, List.getElem_cons_zero, List.setIfInBounds_toArray, List.set_cons_zero, List.set_cons_succ]
        have SR : Hid (Sq wa P (.slice Ar nr cr) nr (CS S)) := (((HR.out.belowP HB1.out).belowP B_V.out).belowP Fa.out)
        have MR : Hid (Ms wa (fun _ => True) S LM) := (((HS.out.below HB1.out).below B_V.out).below Fa.out)
        refine wpAnyH_ready (rs := [4]) (by kernel_rfl) (by simp) ?_
        refine AllReadyH.cons rfl (fun K0 hK => ?_) (AllReadyH.nil)
        try go_simp
        go_at_call 27
        refine (copies_any P _ Ar nr cr S LM wa SR.out MR.out.mr HN.out.2.1 HN.out.2.2.2).mono ?_
        rintro e wb ⟨vb, Sb, rfl, ob, mb, bb⟩
        obtain ⟨Ab, cb, rfl⟩ := ob.sl
        have Ob := Lib.hid ob
        have Mb := Lib.hid mb
        have Fb := Lib.hid bb
        clear ob mb bb
        try go_wp2_with fail
        have BX_b : Hid (Below (X + 2) wr wb) := BX_a.out.trans (Fb.out.mono (by have := Fa.out.size; have := B_V.out.size; have := HSZ.out; omega))
        have Ob1 : Hid (Ow 33 wb (fun b => V.heap.size ≤ b) (.slice Aa j ca) j (CS Sa)) := Oa.out.below Fb.out
        have Mb1 : Hid (Ms wb (fun b => V.heap.size ≤ b) Sa LL') := Ma.out.below Fb.out
        have Mb2 : Hid (Ms wb (fun b => V.heap.size ≤ b) Sb LM) := Mb.out.imp fun b _ hb => by have := Fa.out.size; omega
        have RD : Hid (Reads wb wb.heap.size 1 Ab nr (CS Sb)) := (Ob.out.sq.st.reads).2
        have HVS : Hid (X + 2 ≤ V.heap.size ∧ V.heap.size ≤ wb.heap.size) := ⟨Nat.le_trans HSZ.out B_V.out.size, Nat.le_trans Fa.out.size Fb.out.size⟩
        refine hK.out _ _ trivial (fun _ => ?_)
        clear hK K0
        try simp only [Act.put, List.getElem_toArray, List.getElem_cons_succ, List.getElem_cons_zero, List.setIfInBounds_toArray, List.set_cons_zero, List.set_cons_succ]
        refine wpAnyH_ready (rs := [5]) (by kernel_rfl) (by simp) ?_
        refine AllReadyH.cons rfl (fun K0 hK => ?_) (AllReadyH.nil)
        refine wp_append_any wb (.tmp 33) (.tmp 36) 27 rfl 0 33 i0 (.slice none 0 0) 1 24 Try.underlying27 hi hz0 hz1 hz2 rfl (by decide) (.slice Aa j ca) j (CS Sa) rfl Ob1.out.own wb.heap.size Ab nr cb (CS Sb) rfl RD.out (CS_one _) (by have := HN.out; unfold maxLen; omega) (by have := HN.out; omega) (Nat.zero_le _) ?_
        intro v2 w5 hown hgrow hblk
        obtain ⟨A2, c2, rfl⟩ := slice_form hown
        have G := Ob1.out.grow hown hgrow hblk
        have O5 : Hid (Ow 33 w5 (fun b => X + 2 ≤ b) (.slice A2 (j + nr) c2) (j + nr) (CS (Sa ++ Sb))) := by
          have h1 := G.1.imp (q := fun b => X + 2 ≤ b) fun b _ hb => by
            rcases hb with hb | hb
            · have := HVS.out; omega
            · have := HVS.out; omega
          unfold Hid
          rw [CS_app]; exact h1
        have hty := Ob1.out.tyb
        have hfo : Fo (fun b => (Value.slice Aa j ca).ownBlock = some b) wb w5 := ⟨hgrow.os, hgrow.tape, hgrow.output, hgrow.size, fun k hk hn => hgrow.block k hk (fun e => hn e.symm)⟩
        have M5 : Hid (Ms w5 (fun b => X + 2 ≤ b) (Sa ++ Sb) (LL' ++ LM)) := ((Mb1.out.app Mb2.out).fot hfo hty).imp fun b _ hb => by have := HVS.out; omega
        have B5 : Hid (Below (X + 2) wr w5) := BX_b.out.trans (G.2.below (fun b hb => by have := HVS.out; omega) (by have := HVS.out; omega))
        clear hown hgrow hblk G hty hfo
        refine hK.out _ _ trivial (fun _ => ?_)
        clear hK K0
        try simp only [Act.put, List.getElem_toArray, List.getElem_cons_succ, List.getElem_cons_zero, List.setIfInBounds_toArray, List.set_cons_zero, List.set_cons_succ]
        refine takeD (i := 6) (d := some 38) (v := ?_) _ rfl rfl (by kernel_rfl) (by kernel_rfl) (by kernel_rfl) (fun _ _ _ h => h) (by rfl) ?_ trivial ?_
        rotate_left
        · (intro w hSw; (try dsimp only at hSw); go_simp) <;> with_reducible rfl
        try simp only [Act.put, List.setIfInBounds_toArray, List.set_cons_zero, List.set_cons_succ]
        have X5 : Hid (w5.heap[X]? = some (.cells #[.int .i64 n, .int .i64 k, .slice Ar nr cr, .bool lost] 29 (0, 0))) := (B5.out.block X (by omega)).trans HXR.out
        have Y5 : Hid (w5.heap[X + 1]? = some (.cells #[.int .i64 0, .int .i64 0, .slice none 0 0, .bool false] 29 (0, 0))) := (B5.out.block (X + 1) (by omega)).trans HYR.out
        obtain ⟨W3, hW3⟩ : ∃ W3, w5.setCell ⟨X, 2, none⟩ (.slice A2 (j + nr) c2) = W3 := ⟨_, rfl⟩
        have X3 : Hid (W3.heap[X]? = some (.cells #[.int .i64 n, .int .i64 k, .slice A2 (j + nr) c2, .bool lost] 29 (0, 0))) := by rw [← hW3]; exact set_at X5.out 2 _
        have Y3 : Hid (W3.heap[X + 1]? = some (.cells #[.int .i64 0, .int .i64 0, .slice none 0 0, .bool false] 29 (0, 0))) := by rw [← hW3]; exact (set_far 2 _ (by omega)).trans Y5.out
        have B3 : Hid (Below X w W3) := by rw [← hW3]; exact (HB.out.trans (B5.out.mono (by omega))).setCell (Nat.le_refl _) _
        have hf3 : Fo (fun b => b = X ∨ b = X + 1) w5 W3 := by rw [← hW3]; exact (Fo.refl _ _).setCell (.inl (.inl rfl)) 2 _
        have O3 : Hid (Ow 33 W3 (fun b => X + 2 ≤ b) (.slice A2 (j + nr) c2) (j + nr) (CS (Sa ++ Sb))) := O5.out.fo hf3 (fun b hb e => by omega)
        have M3 : Hid (Ms W3 (fun b => X + 2 ≤ b) (Sa ++ Sb) (LL' ++ LM)) := M5.out.fo hf3 (fun b hb e => by omega)
        clear hf3
        have p0 : w5.cell? ⟨X, 0, none⟩ = some (.int .i64 n) := by rw [(row_cell X5.out 0).1]; rfl
        have pf0 : w5.frozen? ⟨X, 0, none⟩ = false := (row_cell X5.out 0).2
        have p1 : w5.cell? ⟨X, 1, none⟩ = some (.int .i64 k) := by rw [(row_cell X5.out 1).1]; rfl
        have pf1 : w5.frozen? ⟨X, 1, none⟩ = false := (row_cell X5.out 1).2
        have p2 : w5.cell? ⟨X, 2, none⟩ = some (.slice Ar nr cr) := by rw [(row_cell X5.out 2).1]; rfl
        have pf2 : w5.frozen? ⟨X, 2, none⟩ = false := (row_cell X5.out 2).2
        have p3 : w5.cell? ⟨X, 3, none⟩ = some (.bool lost) := by rw [(row_cell X5.out 3).1]; rfl
        have pf3 : w5.frozen? ⟨X, 3, none⟩ = false := (row_cell X5.out 3).2
        have r0 : W3.cell? ⟨X, 0, none⟩ = some (.int .i64 n) := by rw [(row_cell X3.out 0).1]; rfl
        have rf0 : W3.frozen? ⟨X, 0, none⟩ = false := (row_cell X3.out 0).2
        have r1 : W3.cell? ⟨X, 1, none⟩ = some (.int .i64 k) := by rw [(row_cell X3.out 1).1]; rfl
        have rf1 : W3.frozen? ⟨X, 1, none⟩ = false := (row_cell X3.out 1).2
        have r2 : W3.cell? ⟨X, 2, none⟩ = some (.slice A2 (j + nr) c2) := by rw [(row_cell X3.out 2).1]; rfl
        have rf2 : W3.frozen? ⟨X, 2, none⟩ = false := (row_cell X3.out 2).2
        have r3 : W3.cell? ⟨X, 3, none⟩ = some (.bool lost) := by rw [(row_cell X3.out 3).1]; rfl
        have rf3 : W3.frozen? ⟨X, 3, none⟩ = false := (row_cell X3.out 3).2
        have s0 : W3.cell? ⟨X + 1, 0, none⟩ = some (.int .i64 0) := by rw [(row_cell Y3.out 0).1]; rfl
        have sf0 : W3.frozen? ⟨X + 1, 0, none⟩ = false := (row_cell Y3.out 0).2
        have s1 : W3.cell? ⟨X + 1, 1, none⟩ = some (.int .i64 0) := by rw [(row_cell Y3.out 1).1]; rfl
        have sf1 : W3.frozen? ⟨X + 1, 1, none⟩ = false := (row_cell Y3.out 1).2
        have s2 : W3.cell? ⟨X + 1, 2, none⟩ = some (.slice none 0 0) := by rw [(row_cell Y3.out 2).1]; rfl
        have sf2 : W3.frozen? ⟨X + 1, 2, none⟩ = false := (row_cell Y3.out 2).2
        have s3 : W3.cell? ⟨X + 1, 3, none⟩ = some (.bool false) := by rw [(row_cell Y3.out 3).1]; rfl
        have sf3 : W3.frozen? ⟨X + 1, 3, none⟩ = false := (row_cell Y3.out 3).2
        refine wpAnyH_ready (rs := [7]) (by kernel_rfl) (by simp) ?_
        refine AllReadyH.cons rfl (fun K0 hK => ?_) (AllReadyH.nil)
        try go_simp
        refine hK.out _ _ trivial (fun _ => ?_)
        clear hK K0
        try simp only [Act.put, List.getElem_toArray, List.getElem_cons_succ, List.getElem_cons_zero, List.setIfInBounds_toArray, List.set_cons_zero, List.set_cons_succ]
        refine wpAnyH_done (by kernel_rfl) ?_ _
        go_wp2_with fail
        refine bodyPost_ret (results_cell_tmp rfl _ _ (X + 1) _ _ rfl (set_four Y3.out _ _ _ _) Try.underlying29 rfl (by kernel_rfl)) rfl ?_
        have hf : Fo (fun b => b = X ∨ b = X + 1) W3 ((((W3.setCell ⟨X + 1, 0, none⟩ (.int .i64 n)).setCell ⟨X + 1, 1, none⟩ (.int .i64 k)).setCell ⟨X + 1, 2, none⟩ (.slice A2 (j + nr) c2)).setCell ⟨X + 1, 3, none⟩ (.bool lost)) := ((((Fo.refl _ W3).setCell (.inl (.inr rfl)) 0 _).setCell (.inl (.inr rfl)) 1 _).setCell (.inl (.inr rfl)) 2 _).setCell (.inl (.inr rfl)) 3 _
        have O4 := O3.out.fo hf (fun b hb e => by omega)
        have M4 := M3.out.fo hf (fun b hb e => by omega)
        have hc : chkV n (k - (nr : Int)) 8 LL' = 0 := by have h1 := HBG.out; unfold chkV; rw [h1, if_neg (by simp), if_neg (by have := HFIT.out; have := HN0.out; omega)]
        have R1 : Sq ((((W3.setCell ⟨X + 1, 0, none⟩ (.int .i64 n)).setCell ⟨X + 1, 1, none⟩ (.int .i64 k)).setCell ⟨X + 1, 2, none⟩ (.slice A2 (j + nr) c2)).setCell ⟨X + 1, 3, none⟩ (.bool lost)) (fun b => P b ∨ X ≤ b) (.slice A2 (j + nr) c2) (j + nr) (CS (Sa ++ Sb)) := O4.sq.imp fun b _ hb => .inr (by omega)
        have R2 : Ms ((((W3.setCell ⟨X + 1, 0, none⟩ (.int .i64 n)).setCell ⟨X + 1, 1, none⟩ (.int .i64 k)).setCell ⟨X + 1, 2, none⟩ (.slice A2 (j + nr) c2)).setCell ⟨X + 1, 3, none⟩ (.bool lost)) (fun _ => True) (Sa ++ Sb) (bL n (k - (nr : Int)) LM LL') := by unfold bL; rw [if_pos hc]; exact M4.imp fun _ _ _ => trivial
        rw [hc]
        first | exact ⟨A2, j + nr, c2, Sa ++ Sb, rfl, R1, R2, ow_cap O4, ((((B3.out.setCell (by exact Nat.le_succ _) _).setCell (by exact Nat.le_succ _) _).setCell (by exact Nat.le_succ _) _).setCell (by exact Nat.le_succ _) _)⟩ | exact ⟨A2, j + nr, c2, rfl, ⟨Sa ++ Sb, R1, R2⟩, ow_cap O4, ((((B3.out.setCell (by exact Nat.le_succ _) _).setCell (by exact Nat.le_succ _) _).setCell (by exact Nat.le_succ _) _).setCell (by exact Nat.le_succ _) _)⟩ | exact ⟨A2, j + nr, c2, rfl, Sa ++ Sb, R1, R2, ow_cap O4, ((((B3.out.setCell (by exact Nat.le_succ _) _).setCell (by exact Nat.le_succ _) _).setCell (by exact Nat.le_succ _) _).setCell (by exact Nat.le_succ _) _)⟩
    have hjI : (j : Int) < (m : Int) := by omega
    have HJ : Hid (j < m) := hlt
    obtain ⟨A', c', L, hs, hl, hsq⟩ := HM.out.get (i := j) (by have := HN0.out; omega)
    obtain ⟨b, off, hA, hbl, hc⟩ := sl_at HV.out hlt hs
    subst hA
    have e0 : wr.cell? ⟨b, off + j, none⟩ = some (.slice A' L.length c') := (HB1.out.cell hbl).trans hc
    have HLJ := Lib.hid hl
    have HBX : Hid (b < X + 2) := by have := HXW.out; unfold Hid; omega
    clear hs hl hsq hbl hc hlt hj
    obtain ⟨nl, hnl⟩ : ∃ nl, L.length = nl := ⟨_, rfl⟩
    have HNL := Lib.hid hnl
    rw [hnl] at e0
    clear hnl
    by_cases hbig : n < (nl : Int)
    · have hbb : decide (n < (nl : Int)) = true := by simpa using hbig
      have hc : chkV n (k - (nr : Int)) 8 LL' = 2 := by
        unfold chkV
        rw [if_pos (big_at HLJ.out (by rw [HNL.out]; exact hbig))]
      have HC := Lib.hid hc
      clear hbig hc
      go_wp2_with fail
      refine wp_region_held_drew (S := (fun w' => Below (X + 2) wr w' ∧ w'.cell? ⟨X, 0, none⟩ = some (.int .i64 n) ∧ w'.cell? ⟨b, off + j, none⟩ = some (.slice A' nl c'))) (by kernel_rfl) ?_ (fun hHeld => ?_)
      · exact ⟨(Below.refl _ _).drew, x0, e0⟩
      refine takeD (i := 0) (d := some 13) (v := ?_) _ rfl rfl (by kernel_rfl) (by kernel_rfl) (by kernel_rfl) (fun _ _ _ h => h) (by rfl) ?_ (by assumption) ?_
      rotate_left
      · (intro w hSw; (try dsimp only at hSw); go_simp) <;> with_reducible rfl
      try simp only [Act.put, List.setIfInBounds_toArray, List.set_cons_zero, List.set_cons_succ]
      refine takeD (i := 1) (d := some 14) (v := ?_) _ rfl rfl (by kernel_rfl) (by kernel_rfl) (by kernel_rfl) (fun _ _ _ h => h) (by rfl) ?_ (by assumption) ?_
      rotate_left
      · (intro w hSw; (try dsimp only at hSw); go_simp) <;> with_reducible rfl
      try simp only [Act.put, List.setIfInBounds_toArray, List.set_cons_zero, List.set_cons_succ]
      refine takeD (i := 2) (d := some 15) (v := ?_) _ rfl rfl (by kernel_rfl) (by kernel_rfl) (by kernel_rfl) (fun _ _ _ h => h) (by rfl) ?_ (by assumption) ?_
      rotate_left
      · (intro w hSw; (try dsimp only at hSw); go_simp) <;> with_reducible rfl
      try simp only [Act.put, List.setIfInBounds_toArray, List.set_cons_zero, List.set_cons_succ]
      refine takeD (i := 3) (d := some 16) (v := ?_) _ rfl rfl (by kernel_rfl) (by kernel_rfl) (by kernel_rfl) (fun _ _ _ h => h) (by rfl) ?_ (by assumption) ?_
      rotate_left
      · (intro w hSw; (try dsimp only at hSw); go_simp) <;> with_reducible rfl
      try simp only [Act.put, List.setIfInBounds_toArray, List.set_cons_zero, List.set_cons_succ]
      refine takeD (i := 4) (d := some 17) (v := ?_) _ rfl rfl (by kernel_rfl) (by kernel_rfl) (by kernel_rfl) (fun _ _ _ h => h) (by rfl) ?_ (by assumption) ?_
      rotate_left
      · (intro w hSw; (try dsimp only at hSw); go_simp) <;> with_reducible rfl
      try simp only [Act.put, List.setIfInBounds_toArray, List.set_cons_zero, List.set_cons_succ]
      refine takeD (i := 5) (d := some 18) (v := ?_) _ rfl rfl (by kernel_rfl) (by kernel_rfl) (by kernel_rfl) (fun _ _ _ h => h) (by rfl) ?_ (by assumption) ?_
      rotate_left
      · (intro w hSw; (try dsimp only at hSw); go_simp) <;> with_reducible rfl
      try simp only [Act.put, List.setIfInBounds_toArray, List.set_cons_zero, List.set_cons_succ]
      refine takeD (i := 6) (d := some 19) (v := ?_) _ rfl rfl (by kernel_rfl) (by kernel_rfl) (by kernel_rfl) (fun _ _ _ h => h) (by rfl) ?_ (by assumption) ?_
      rotate_left
      · (intro w hSw; (try dsimp only at hSw); go_simp) <;> with_reducible rfl
      try simp only [Act.put, List.setIfInBounds_toArray, List.set_cons_zero, List.set_cons_succ]
      refine takeD (i := 7) (d := some 20) (v := ?_) _ rfl rfl (by kernel_rfl) (by kernel_rfl) (by kernel_rfl) (fun _ _ _ h => h) (by rfl) ?_ (by assumption) ?_
      rotate_left
      · (intro w hSw; (try dsimp only at hSw); go_simp) <;> with_reducible rfl
      try simp only [Act.put, List.setIfInBounds_toArray, List.set_cons_zero, List.set_cons_succ]
      refine wpAnyH_done (by kernel_rfl) ?_ _
      have HF := Lib.hid hHeld.1
      clear hHeld e0
      obtain ⟨w2, hw2⟩ : ∃ w2, wr.drew = w2 := ⟨_, rfl⟩
      rw [hw2] at HF
      rw [hw2]
      clear hw2
      have HX2 : Hid (w2.heap[X]? = some (.cells #[.int .i64 n, .int .i64 k, .slice Ar nr cr, .bool lost] 29 (0, 0))) := (HF.out.block _ (by omega)).trans HXR.out
      have HY2 : Hid (w2.heap[X + 1]? = some (.cells #[.int .i64 0, .int .i64 0, .slice none 0 0, .bool false] 29 (0, 0))) := (HF.out.block _ (by omega)).trans HYR.out
      have B2 : Hid (Below X w w2) := HB.out.trans (HF.out.mono (by omega))
      have S2 : Hid (X + 2 ≤ w2.heap.size) := Nat.le_trans HSZ.out HF.out.size
      clear x0 xf0 y0 yf0 x1 xf1 y1 yf1 x2 xf2 y2 yf2 x3 xf3 y3 yf3
      have x0 : w2.cell? ⟨X, 0, none⟩ = some (.int .i64 n) := by rw [(row_cell HX2.out 0).1]; rfl
      have xf0 : w2.frozen? ⟨X, 0, none⟩ = false := (row_cell HX2.out 0).2
      have x1 : w2.cell? ⟨X, 1, none⟩ = some (.int .i64 k) := by rw [(row_cell HX2.out 1).1]; rfl
      have xf1 : w2.frozen? ⟨X, 1, none⟩ = false := (row_cell HX2.out 1).2
      have x2 : w2.cell? ⟨X, 2, none⟩ = some (.slice Ar nr cr) := by rw [(row_cell HX2.out 2).1]; rfl
      have xf2 : w2.frozen? ⟨X, 2, none⟩ = false := (row_cell HX2.out 2).2
      have x3 : w2.cell? ⟨X, 3, none⟩ = some (.bool lost) := by rw [(row_cell HX2.out 3).1]; rfl
      have xf3 : w2.frozen? ⟨X, 3, none⟩ = false := (row_cell HX2.out 3).2
      have y0 : w2.cell? ⟨X + 1, 0, none⟩ = some (.int .i64 0) := by rw [(row_cell HY2.out 0).1]; rfl
      have yf0 : w2.frozen? ⟨X + 1, 0, none⟩ = false := (row_cell HY2.out 0).2
      have y1 : w2.cell? ⟨X + 1, 1, none⟩ = some (.int .i64 0) := by rw [(row_cell HY2.out 1).1]; rfl
      have yf1 : w2.frozen? ⟨X + 1, 1, none⟩ = false := (row_cell HY2.out 1).2
      have y2 : w2.cell? ⟨X + 1, 2, none⟩ = some (.slice none 0 0) := by rw [(row_cell HY2.out 2).1]; rfl
      have yf2 : w2.frozen? ⟨X + 1, 2, none⟩ = false := (row_cell HY2.out 2).2
      have y3 : w2.cell? ⟨X + 1, 3, none⟩ = some (.bool false) := by rw [(row_cell HY2.out 3).1]; rfl
      have yf3 : w2.frozen? ⟨X + 1, 3, none⟩ = false := (row_cell HY2.out 3).2
      go_wp2_with fail
      refine bodyPost_ret (results_cell_tmp rfl _ _ (X + 1) _ _ rfl (set_four HY2.out _ _ _ _) Try.underlying29 rfl (by kernel_rfl)) rfl ?_
      have hf : Fo (fun b => b = X ∨ b = X + 1) w2 ((((w2.setCell ⟨X + 1, 0, none⟩ (.int .i64 n)).setCell ⟨X + 1, 1, none⟩ (.int .i64 k)).setCell ⟨X + 1, 2, none⟩ (.slice Ar nr cr)).setCell ⟨X + 1, 3, none⟩ (.bool lost)) := ((((Fo.refl _ w2).setCell (.inl (.inr rfl)) 0 _).setCell (.inl (.inr rfl)) 1 _).setCell (.inl (.inr rfl)) 2 _).setCell (.inl (.inr rfl)) 3 _
      have bF : Below w.heap.size w ((((w2.setCell ⟨X + 1, 0, none⟩ (.int .i64 n)).setCell ⟨X + 1, 1, none⟩ (.int .i64 k)).setCell ⟨X + 1, 2, none⟩ (.slice Ar nr cr)).setCell ⟨X + 1, 3, none⟩ (.bool lost)) := by rw [HXW.out]; exact ((((B2.out.setCell (by exact Nat.le_succ _) _).setCell (by exact Nat.le_succ _) _).setCell (by exact Nat.le_succ _) _).setCell (by exact Nat.le_succ _) _)
      have R1 : Sq ((((w2.setCell ⟨X + 1, 0, none⟩ (.int .i64 n)).setCell ⟨X + 1, 1, none⟩ (.int .i64 k)).setCell ⟨X + 1, 2, none⟩ (.slice Ar nr cr)).setCell ⟨X + 1, 3, none⟩ (.bool lost)) (fun b => P b ∨ X ≤ b) (.slice Ar nr cr) nr (CS S) := (HR.out.belowP bF).imp fun b _ hb => .inl hb
      have R2 : Ms ((((w2.setCell ⟨X + 1, 0, none⟩ (.int .i64 n)).setCell ⟨X + 1, 1, none⟩ (.int .i64 k)).setCell ⟨X + 1, 2, none⟩ (.slice Ar nr cr)).setCell ⟨X + 1, 3, none⟩ (.bool lost)) (fun _ => True) S (bL n (k - (nr : Int)) LM LL') := by unfold bL; rw [if_neg (by rw [HC.out]; decide)]; exact HS.out.below bF
      rw [HC.out]
      rw [HXW.out] at bF
      first | exact ⟨Ar, nr, cr, S, rfl, R1, R2, HCP.out, bF⟩ | exact ⟨Ar, nr, cr, rfl, ⟨S, R1, R2⟩, HCP.out, bF⟩ | exact ⟨Ar, nr, cr, rfl, S, R1, R2, HCP.out, bF⟩
    have hbb : decide (n < (nl : Int)) = false := by simpa using hbig
    have HG1 : Hid (big n (LL'.take (j + 1)) = false) := big_take HLJ.out HG.out (by rw [HNL.out]; omega)
    clear hbig
    go_wp2_with fail
    refine wp_region_held_drew (S := (fun w' => Below (X + 2) wr w' ∧ w'.cell? ⟨X, 0, none⟩ = some (.int .i64 n) ∧ w'.cell? ⟨b, off + j, none⟩ = some (.slice A' nl c'))) (by kernel_rfl) ?_ (fun hHeld => ?_)
    · exact ⟨(Below.refl _ _).drew, x0, e0⟩
    refine takeD (i := 0) (d := some 13) (v := ?_) _ rfl rfl (by kernel_rfl) (by kernel_rfl) (by kernel_rfl) (fun _ _ _ h => h) (by rfl) ?_ (by assumption) ?_
    rotate_left
    · (intro w hSw; (try dsimp only at hSw); go_simp) <;> with_reducible rfl
    try simp only [Act.put, List.setIfInBounds_toArray, List.set_cons_zero, List.set_cons_succ]
    refine takeD (i := 1) (d := some 14) (v := ?_) _ rfl rfl (by kernel_rfl) (by kernel_rfl) (by kernel_rfl) (fun _ _ _ h => h) (by rfl) ?_ (by assumption) ?_
    rotate_left
    · (intro w hSw; (try dsimp only at hSw); go_simp) <;> with_reducible rfl
    try simp only [Act.put, List.setIfInBounds_toArray, List.set_cons_zero, List.set_cons_succ]
    refine takeD (i := 2) (d := some 15) (v := ?_) _ rfl rfl (by kernel_rfl) (by kernel_rfl) (by kernel_rfl) (fun _ _ _ h => h) (by rfl) ?_ (by assumption) ?_
    rotate_left
    · (intro w hSw; (try dsimp only at hSw); go_simp) <;> with_reducible rfl
    try simp only [Act.put, List.setIfInBounds_toArray, List.set_cons_zero, List.set_cons_succ]
    refine takeD (i := 3) (d := some 16) (v := ?_) _ rfl rfl (by kernel_rfl) (by kernel_rfl) (by kernel_rfl) (fun _ _ _ h => h) (by rfl) ?_ (by assumption) ?_
    rotate_left
    · (intro w hSw; (try dsimp only at hSw); go_simp) <;> with_reducible rfl
    try simp only [Act.put, List.setIfInBounds_toArray, List.set_cons_zero, List.set_cons_succ]
    refine takeD (i := 4) (d := some 17) (v := ?_) _ rfl rfl (by kernel_rfl) (by kernel_rfl) (by kernel_rfl) (fun _ _ _ h => h) (by rfl) ?_ (by assumption) ?_
    rotate_left
    · (intro w hSw; (try dsimp only at hSw); go_simp) <;> with_reducible rfl
    try simp only [Act.put, List.setIfInBounds_toArray, List.set_cons_zero, List.set_cons_succ]
    refine takeD (i := 5) (d := some 18) (v := ?_) _ rfl rfl (by kernel_rfl) (by kernel_rfl) (by kernel_rfl) (fun _ _ _ h => h) (by rfl) ?_ (by assumption) ?_
    rotate_left
    · (intro w hSw; (try dsimp only at hSw); go_simp) <;> with_reducible rfl
    try simp only [Act.put, List.setIfInBounds_toArray, List.set_cons_zero, List.set_cons_succ]
    refine takeD (i := 6) (d := some 19) (v := ?_) _ rfl rfl (by kernel_rfl) (by kernel_rfl) (by kernel_rfl) (fun _ _ _ h => h) (by rfl) ?_ (by assumption) ?_
    rotate_left
    · (intro w hSw; (try dsimp only at hSw); go_simp) <;> with_reducible rfl
    try simp only [Act.put, List.setIfInBounds_toArray, List.set_cons_zero, List.set_cons_succ]
    refine takeD (i := 7) (d := some 20) (v := ?_) _ rfl rfl (by kernel_rfl) (by kernel_rfl) (by kernel_rfl) (fun _ _ _ h => h) (by rfl) ?_ (by assumption) ?_
    rotate_left
    · (intro w hSw; (try dsimp only at hSw); go_simp) <;> with_reducible rfl
    try simp only [Act.put, List.setIfInBounds_toArray, List.set_cons_zero, List.set_cons_succ]
    refine wpAnyH_done (by kernel_rfl) ?_ _
    have HF := Lib.hid hHeld.1
    clear hHeld e0
    obtain ⟨w2, hw2⟩ : ∃ w2, wr.drew = w2 := ⟨_, rfl⟩
    rw [hw2] at HF
    rw [hw2]
    clear hw2
    have HX2 : Hid (w2.heap[X]? = some (.cells #[.int .i64 n, .int .i64 k, .slice Ar nr cr, .bool lost] 29 (0, 0))) := (HF.out.block _ (by omega)).trans HXR.out
    have HY2 : Hid (w2.heap[X + 1]? = some (.cells #[.int .i64 0, .int .i64 0, .slice none 0 0, .bool false] 29 (0, 0))) := (HF.out.block _ (by omega)).trans HYR.out
    have B2 : Hid (Below X w w2) := HB.out.trans (HF.out.mono (by omega))
    have S2 : Hid (X + 2 ≤ w2.heap.size) := Nat.le_trans HSZ.out HF.out.size
    clear x0 xf0 y0 yf0 x1 xf1 y1 yf1 x2 xf2 y2 yf2 x3 xf3 y3 yf3
    go_wp2_with fail
    go_roundw
    case rel =>
      have Q : BkR X n k Ar nr cr lost LL' m w (.int .i64 ((j : Int) + 1)) w2 := ⟨⟨j + 1, HJ.out, by go_num, HG1.out, HX2.out, HY2.out, B2.out, S2.out⟩⟩
      first | exact Q | ((repeat apply Exists.intro); exact ⟨Q, rfl⟩)
    case measure => have := HJ.out; simp [intOf]; omega
end Go.Proofs.Ytejambofnffopaa.Q
