/-
  Loops within loops, of registers alone. Each statement bears its own conditions.
-/
import Derived.Test.YthmalhakkdjilaaDoorCpR
namespace Go.Proofs.YthmalhakkdjilaaDoor
open Go.RowKit
set_option linter.unusedVariables false
set_option linter.unusedSimpArgs false
/-- The code of loops one within another, and behind them one addition. -/
def codeK : List Int → List Int
  | [] => [562036737]
  | k :: ks => (2415919104 + ((ks.length : Int) + 1) * 524288 + k) :: codeK ks
def stepsK : List Int → Nat
  | [] => 1
  | k :: ks => 1 + k.toNat * stepsK ks
def prodK : List Int → Nat
  | [] => 1
  | k :: ks => k.toNat * prodK ks
def loopsK (n : Int) : List Int → List Int
  | [] => []
  | l :: ls => loopsK n ls ++ [(ls.length : Int) + 1, n + 1, l]
/-- The registers within these loops: at place pc, so often still to repeat (the innermost loop first), so many additions done. -/
def toR (n pc : Int) (ls : List Int) (x : Int) : List Int := [0, 0, 0, x, 0, 0, 0, 0, 0, 0, 0, 0, 0, 0, 0, 0, pc, 0, 0, 0] ++ (loopsK n ls ++ (List.replicate (24 - 3 * ls.length) 0 ++ [(ls.length : Int)]))
def backR (n : Int) : List Int → Int → List Int
  | [], x => toR n (n + 1) [] x
  | l :: ls, x => if l = 0 then backR n ls x else toR n ((ls.length : Int) + 1) ((l - 1) :: ls) x
theorem codeK_len (ks : List Int) : (codeK ks).length = ks.length + 1 := by
  induction ks with
  | nil => rfl
  | cons k ks ih => simp [codeK, ih]
theorem codeK_app : ∀ (p q : List Int), ∃ A, codeK (p ++ q) = A ++ codeK q ∧ A.length = p.length
  | [], q => ⟨[], rfl, rfl⟩
  | k :: p, q => by
    obtain ⟨A, h1, h2⟩ := codeK_app p q
    exact ⟨(2415919104 + (((p ++ q).length : Int) + 1) * 524288 + k) :: A, by simp [codeK, h1], by simp [h2]⟩
theorem codeK_at (p q : List Int) : (codeK (p ++ q)).getD p.length 0 = (codeK q).getD 0 0 := by
  obtain ⟨A, h1, h2⟩ := codeK_app p q
  rw [h1, List.getD_eq_getElem?_getD, ← h2, List.getElem?_append_right (Nat.le_refl _), Nat.sub_self, ← List.getD_eq_getElem?_getD]
theorem settled_same {r : List Int} (h : endsV r = false) : settledV r = r := by
  have h1 : leftV r = r := by unfold leftV; rw [if_neg (by rw [h]; simp)]
  have h2 : leftsV 8 r = r := by rw [leftsV, if_pos h1]
  unfold settledV
  rw [h2]
  dsimp only
  rw [if_neg (by rw [h]; simp)]
/-! ### Parts, by evaluation: at most four loops -/
section
variable (n : Int) (ls : List Int) (x l : Int)
theorem toR_dep (pc : Int) (h : ls.length ≤ 4) : (toR n pc ls x).getD 44 0 = (ls.length : Int) := by
  rcases ls with _ | ⟨a, _ | ⟨b, _ | ⟨c, _ | ⟨d, _ | ⟨e, f⟩⟩⟩⟩⟩ <;> first | (exfalso; simp only [List.length_cons] at h; omega) | kernel_rfl
theorem toR_pc (pc : Int) : (toR n pc ls x).getD 16 0 = pc := rfl
theorem toR_three (pc : Int) : (toR n pc ls x).getD 3 0 = x := rfl
theorem toR_set16 (pc pc' : Int) : (toR n pc ls x).set 16 pc' = toR n pc' ls x := rfl
theorem toR_set3 (pc x' : Int) : (toR n pc ls x).set 3 x' = toR n pc ls x' := rfl
theorem toR_from (pc : Int) (h : ls.length < 4) : (toR n pc (l :: ls) x).getD (20 + 3 * ls.length) 0 = (ls.length : Int) + 1 := by
  rcases ls with _ | ⟨a, _ | ⟨b, _ | ⟨c, _ | ⟨d, f⟩⟩⟩⟩ <;> first | (exfalso; simp only [List.length_cons] at h; omega) | kernel_rfl
theorem toR_end (pc : Int) (h : ls.length < 4) : (toR n pc (l :: ls) x).getD (20 + 3 * ls.length + 1) 0 = n + 1 := by
  rcases ls with _ | ⟨a, _ | ⟨b, _ | ⟨c, _ | ⟨d, f⟩⟩⟩⟩ <;> first | (exfalso; simp only [List.length_cons] at h; omega) | kernel_rfl
theorem toR_left (pc : Int) (h : ls.length < 4) : (toR n pc (l :: ls) x).getD (20 + 3 * ls.length + 2) 0 = l := by
  rcases ls with _ | ⟨a, _ | ⟨b, _ | ⟨c, _ | ⟨d, f⟩⟩⟩⟩ <;> first | (exfalso; simp only [List.length_cons] at h; omega) | kernel_rfl
theorem toR_setl (pc l' : Int) (h : ls.length < 4) : (toR n pc (l :: ls) x).set (20 + 3 * ls.length + 2) l' = toR n pc (l' :: ls) x := by
  rcases ls with _ | ⟨a, _ | ⟨b, _ | ⟨c, _ | ⟨d, f⟩⟩⟩⟩ <;> first | (exfalso; simp only [List.length_cons] at h; omega) | kernel_rfl
theorem toR_out (pc : Int) (h : ls.length < 4) : (((((toR n pc (l :: ls) x).set 44 (ls.length : Int)).set (20 + 3 * ls.length) 0).set (20 + 3 * ls.length + 1) 0).set (20 + 3 * ls.length + 2) 0) = toR n pc ls x := by
  rcases ls with _ | ⟨a, _ | ⟨b, _ | ⟨c, _ | ⟨d, f⟩⟩⟩⟩ <;> first | (exfalso; simp only [List.length_cons] at h; omega) | kernel_rfl
theorem toR_in (pc : Int) (h : ls.length < 4) : (((((toR n pc ls x).set (20 + ls.length * 3) ((ls.length : Int) + 1)).set (20 + ls.length * 3 + 1) (n + 1)).set (20 + ls.length * 3 + 2) l).set 44 ((ls.length : Int) + 1)) = toR n pc (l :: ls) x := by
  rcases ls with _ | ⟨a, _ | ⟨b, _ | ⟨c, _ | ⟨d, f⟩⟩⟩⟩ <;> first | (exfalso; simp only [List.length_cons] at h; omega) | kernel_rfl
theorem ends_cons (pc : Int) (h : ls.length < 4) : endsV (toR n pc (l :: ls) x) = decide (n + 1 = pc) := by
  unfold endsV
  have e : (((l :: ls).length : Nat) : Int) - 1 = (ls.length : Int) := by simp
  rw [toR_dep n (l :: ls) x pc (by simp; omega), e, Int.toNat_natCast, toR_end n ls x l pc h, toR_pc]
  simp
theorem ends_nil (pc : Int) : endsV (toR n pc [] x) = false := rfl
theorem left_zero (h : ls.length < 4) : leftV (toR n (n + 1) (0 :: ls) x) = toR n (n + 1) ls x := by
  unfold leftV
  have e : (((0 :: ls : List Int).length : Nat) : Int) - 1 = (ls.length : Int) := by simp
  rw [ends_cons n ls x 0 _ h, toR_dep n (0 :: ls) x _ (by simp; omega), e, Int.toNat_natCast, toR_left n ls x 0 _ h, if_pos ⟨by simp, rfl⟩]
  exact toR_out n ls x 0 _ h
theorem left_pos (h : ls.length < 4) (hl : l ≠ 0) : leftV (toR n (n + 1) (l :: ls) x) = toR n (n + 1) (l :: ls) x := by
  unfold leftV
  have e : (((l :: ls).length : Nat) : Int) - 1 = (ls.length : Int) := by simp
  rw [ends_cons n ls x l _ h, toR_dep n (l :: ls) x _ (by simp; omega), e, Int.toNat_natCast, toR_left n ls x l _ h, if_neg (fun h => hl h.2)]
end
theorem lefts_stay {r : List Int} (h : leftV r = r) (f : Nat) : leftsV f r = r := by
  cases f with
  | zero => rfl
  | succ f => rw [leftsV, if_pos h]
theorem settled_rest (n x : Int) : ∀ (ls : List Int) (f : Nat), ls.length ≤ 4 → ls.length ≤ f → (∀ l ∈ ls, 0 ≤ l ∧ l ≤ 5) →
    (let r := leftsV f (toR n (n + 1) ls x)
     if endsV r = true then
       let d := (r.getD 44 0 - 1).toNat
       (r.set (20 + 3 * d + 2) (IntKind.i64.wrap (r.getD (20 + 3 * d + 2) 0 - 1))).set 16 (r.getD (20 + 3 * d) 0)
     else r) = backR n ls x
  | [], f, _, _, _ => by
    have h1 : leftV (toR n (n + 1) [] x) = toR n (n + 1) [] x := by unfold leftV; rw [ends_nil]; rfl
    dsimp only
    rw [lefts_stay h1, ends_nil]
    rfl
  | l :: ls, f, h4, hf, hb => by
    have h3 : ls.length < 4 := by simp at h4; omega
    have hl := hb l (by simp)
    by_cases h0 : l = 0
    · subst h0
      obtain ⟨f, rfl⟩ : ∃ g, f = g + 1 := ⟨f - 1, by simp at hf; omega⟩
      have hne : leftV (toR n (n + 1) (0 :: ls) x) ≠ toR n (n + 1) (0 :: ls) x := by
        rw [left_zero n ls x h3]
        intro h
        have := congrArg (fun r => List.getD r 44 0) h
        rw [toR_dep n ls x _ (by omega), toR_dep n (0 :: ls) x _ (by simp; omega)] at this
        simp at this
        omega
      have := settled_rest n x ls f (by omega) (by simp at hf; omega) (fun l h => hb l (by simp [h]))
      rw [leftsV, if_neg hne, left_zero n ls x h3]
      rw [backR, if_pos rfl]
      exact this
    · have e : (((l :: ls).length : Nat) : Int) - 1 = (ls.length : Int) := by simp
      dsimp only
      rw [lefts_stay (left_pos n ls x l h3 h0), ends_cons n ls x l _ h3, if_pos (by simp), toR_dep n (l :: ls) x _ (by simp; omega), e, Int.toNat_natCast, toR_left n ls x l _ h3, toR_from n ls x l _ h3, i64_ok (by omega) (by omega), toR_setl n ls x l _ _ h3, toR_set16, backR, if_neg h0]
theorem settled_back (n x : Int) (ls : List Int) (h4 : ls.length ≤ 4) (hb : ∀ l ∈ ls, 0 ≤ l ∧ l ≤ 5) : settledV (toR n (n + 1) ls x) = backR n ls x :=
  settled_rest n x ls 8 h4 (by omega) hb
/-! ### The run -/
inductive Goes (μ : MS) : Nat → List Int → List Int → Prop
  | nil (r) : Goes μ 0 r r
  | step {m r r' r''} : okMem r μ → stV1 r μ = ⟨r', 1, -1, 0, μ⟩ → Goes μ m r' r'' → Goes μ (m + 1) r r''
theorem Goes.app {μ : MS} {m m' : Nat} {r r' r'' : List Int} (h : Goes μ m r r') (h' : Goes μ m' r' r'') : Goes μ (m + m') r r'' := by
  induction h with
  | nil => rw [Nat.zero_add]; exact h'
  | step a b _ ih => rw [Nat.add_right_comm]; exact .step a b (ih h')
theorem Goes.run {μ : MS} {m : Nat} {r r' : List Int} (h : Goes μ m r r') : ∀ (k : Nat) (t lt : Int), 0 ≤ t → t + m ≤ 9223372036854775807 → ∃ lt', runGo stV1 ((k : Int) + m) m ⟨r, μ, k, t, lt, -1, 0⟩ = ⟨r', μ, k + m, t + m, lt', -1, 0⟩ ∧ okGo stV1 okMem ((k : Int) + m) m ⟨r, μ, k, t, lt, -1, 0⟩ := by
  induction h with
  | nil r => intro k t lt h0 h1; exact ⟨lt, by simp [runGo], trivial⟩
  | @step m r r1 r2 a b _ ih =>
    intro k t lt h0 h1
    have hn : RS.next stV1 ⟨r, μ, k, t, lt, -1, 0⟩ = ⟨r1, μ, k + 1, t + 1, 1, -1, 0⟩ := by
      unfold RS.next
      dsimp only
      rw [b]
      dsimp only
      rw [i64_ok (by omega) (by omega)]
    obtain ⟨lt', e1, e2⟩ := ih (k + 1) (t + 1) 1 (by omega) (by omega)
    have ek : ((k + 1 : Nat) : Int) + (m : Int) = (k : Int) + ((m + 1 : Nat) : Int) := by omega
    have ek' : k + 1 + m = k + (m + 1) := by omega
    have et : t + 1 + (m : Int) = t + ((m + 1 : Nat) : Int) := by omega
    rw [ek, ek', et] at e1
    rw [ek] at e2
    refine ⟨lt', ?_, ?_⟩
    · rw [runGo, if_pos ⟨by dsimp only; omega, rfl, rfl⟩, hn, e1]
    · intro _
      exact ⟨a, by rw [hn]; exact e2⟩
theorem dec_loop : ∀ (b k : Int), 1 ≤ b → b ≤ 4 → 1 ≤ k → k ≤ 5 → decV (2415919104 + b * 524288 + k) = ⟨18, 0, b, k, 1, 0⟩ := by
  intro b k h1 h2 h3 h4
  obtain rfl | rfl | rfl | rfl : b = 1 ∨ b = 2 ∨ b = 3 ∨ b = 4 := by omega
  all_goals (obtain rfl | rfl | rfl | rfl | rfl : k = 1 ∨ k = 2 ∨ k = 3 ∨ k = 4 ∨ k = 5 := by omega) <;> kernel_rfl
theorem dec_add : decV 562036737 = ⟨4, 3, 0, 1, 1, 0⟩ := by kernel_rfl
theorem next_at {ks p q : List Int} {ls : List Int} {x st : Int} (hk : ks = p ++ q) (hp : p.length = ls.length) (h4 : ls.length ≤ 4) (hq : ks.length ≤ 4) : nextV (toR (ks.length : Int) (ls.length : Int) ls x) ⟨codeK ks, ks.length + 1, st⟩ = decV ((codeK q).getD 0 0) := by
  have hl : ls.length ≤ ks.length := by rw [hk, List.length_append]; omega
  have hc := codeK_len ks
  have he : ftE (codeK ks) (ks.length + 1) (ls.length : Int) = 0 := by
    unfold ftE
    rw [hc]
    simp
    omega
  have hx : ftX (codeK ks) (ks.length + 1) (ls.length : Int) = (codeK q).getD 0 0 := by
    unfold ftX
    rw [if_pos (by rw [hc]; omega), if_pos (by omega), Int.toNat_natCast, ← hp, hk, codeK_at]
  unfold nextV
  rw [toR_dep _ _ _ _ h4, if_neg (by omega), toR_pc]
  dsimp only
  rw [he, if_pos rfl, hx]
theorem go_add {ks ls : List Int} {x st : Int} (hp : ls.length = ks.length) (hq : ks.length ≤ 4) (hb : ∀ l ∈ ls, 0 ≤ l ∧ l ≤ 5) (hx : 0 ≤ x) (hx' : x ≤ 100000) : Goes ⟨codeK ks, ks.length + 1, st⟩ 1 (toR (ks.length : Int) (ls.length : Int) ls x) (backR (ks.length : Int) ls (x + 1)) := by
  have hn := next_at (ks := ks) (p := ks) (q := []) (ls := ls) (x := x) (st := st) (by simp) hp.symm (by omega) hq
  have hd : decV ((codeK []).getD 0 0) = ⟨4, 3, 0, 1, 1, 0⟩ := dec_add
  rw [hd] at hn
  refine .step (ok_of 4 (by rw [hn]; rfl) effC_4 (fine_reg 4 (by decide) (by decide))) ?_ (.nil _)
  have hs := settled_back (ks.length : Int) (x + 1) ls (by omega) hb
  have e1 : IntKind.u32.wrap ((ls.length : Int) + 1) = (ks.length : Int) + 1 := by rw [hp]; exact IntWalk.u32_in _ ⟨by omega, by omega⟩
  have e2 : wordF 4 x (IntKind.u32.wrap 1) = x + 1 := by
    show IntKind.u32.wrap (x + IntKind.u32.wrap 1) = x + 1
    rw [IntWalk.u32_in 1 ⟨by omega, by omega⟩]
    exact IntWalk.u32_in _ ⟨by omega, by omega⟩
  have ee : effV 4 3 0 1 (toR (ks.length : Int) ((ks.length : Int) + 1) ls x) ⟨codeK ks, ks.length + 1, st⟩ = ⟨0, toR (ks.length : Int) ((ks.length : Int) + 1) ls (x + 1), -1, ⟨codeK ks, ks.length + 1, st⟩⟩ := by
    have : effV 4 3 0 1 (toR (ks.length : Int) ((ks.length : Int) + 1) ls x) ⟨codeK ks, ks.length + 1, st⟩ = ⟨0, (toR (ks.length : Int) ((ks.length : Int) + 1) ls x).set 3 (wordF 4 x (IntKind.u32.wrap 1)), -1, ⟨codeK ks, ks.length + 1, st⟩⟩ := rfl
    rw [this, e2, toR_set3]
  unfold stV1
  rw [hn]
  dsimp only
  rw [if_pos rfl, toR_pc, e1, toR_set16]
  have e4 : (4 : Int).toNat = 4 := rfl
  rw [e4, ee]
  dsimp only
  rw [if_pos rfl, hs]
theorem go_in {ks p q ls : List Int} {k x st : Int} (hk : ks = p ++ k :: q) (hp : p.length = ls.length) (hq : ks.length ≤ 4) (hk1 : 1 ≤ k) (hk5 : k ≤ 5) : okMem (toR (ks.length : Int) (ls.length : Int) ls x) ⟨codeK ks, ks.length + 1, st⟩ ∧ stV1 (toR (ks.length : Int) (ls.length : Int) ls x) ⟨codeK ks, ks.length + 1, st⟩ = ⟨toR (ks.length : Int) ((ls.length : Int) + 1) ((k - 1) :: ls) x, 1, -1, 0, ⟨codeK ks, ks.length + 1, st⟩⟩ := by
  have hlen : ks.length = p.length + q.length + 1 := by rw [hk]; simp; omega
  have h3 : ls.length < 4 := by omega
  have hn := next_at (x := x) (st := st) hk hp (by omega) hq
  have hd : decV ((codeK (k :: q)).getD 0 0) = ⟨18, 0, (q.length : Int) + 1, k, 1, 0⟩ := dec_loop ((q.length : Int) + 1) k (by omega) (by omega) hk1 hk5
  rw [hd] at hn
  refine ⟨ok_of 18 (by rw [hn]; rfl) effC_loop fine_loop, ?_⟩
  have e1 : IntKind.u32.wrap ((ls.length : Int) + 1) = (ls.length : Int) + 1 := IntWalk.u32_in _ ⟨by omega, by omega⟩
  have e2 : IntKind.u32.wrap ((ls.length : Int) + 1 + IntKind.u32.wrap (16 * 0 + ((q.length : Int) + 1))) = (ks.length : Int) + 1 := by
    rw [IntWalk.u32_in (16 * 0 + ((q.length : Int) + 1)) ⟨by omega, by omega⟩, IntWalk.u32_in _ ⟨by omega, by omega⟩]
    omega
  have hdep := toR_dep (ks.length : Int) ls x ((ls.length : Int) + 1) (by omega)
  have el : loopR (toR (ks.length : Int) ((ls.length : Int) + 1) ls x) 0 ((q.length : Int) + 1) k = toR (ks.length : Int) ((ls.length : Int) + 1) ((k - 1) :: ls) x := by
    unfold loopR
    rw [hdep, toR_pc, Int.toNat_natCast, e2]
    exact toR_in (ks.length : Int) ls x (k - 1) ((ls.length : Int) + 1) h3
  have ee : effV 18 0 ((q.length : Int) + 1) k (toR (ks.length : Int) ((ls.length : Int) + 1) ls x) ⟨codeK ks, ks.length + 1, st⟩ = ⟨0, toR (ks.length : Int) ((ls.length : Int) + 1) ((k - 1) :: ls) x, -1, ⟨codeK ks, ks.length + 1, st⟩⟩ := by
    have : effV 18 0 ((q.length : Int) + 1) k (toR (ks.length : Int) ((ls.length : Int) + 1) ls x) ⟨codeK ks, ks.length + 1, st⟩ = if (toR (ks.length : Int) ((ls.length : Int) + 1) ls x).getD 44 0 = 8 then ⟨21, toR (ks.length : Int) ((ls.length : Int) + 1) ls x, -1, ⟨codeK ks, ks.length + 1, st⟩⟩ else ⟨0, loopR (toR (ks.length : Int) ((ls.length : Int) + 1) ls x) 0 ((q.length : Int) + 1) k, -1, ⟨codeK ks, ks.length + 1, st⟩⟩ := rfl
    rw [this, hdep, if_neg (by omega), el]
  have hs : settledV (toR (ks.length : Int) ((ls.length : Int) + 1) ((k - 1) :: ls) x) = toR (ks.length : Int) ((ls.length : Int) + 1) ((k - 1) :: ls) x := by
    refine settled_same ?_
    rw [ends_cons _ _ _ _ _ h3]
    simp
    omega
  unfold stV1
  rw [hn]
  dsimp only
  rw [if_pos rfl, toR_pc, e1, toR_set16]
  have e4 : (18 : Int).toNat = 18 := rfl
  rw [e4, ee]
  dsimp only
  rw [if_pos rfl, hs]
theorem goes_all {ks : List Int} (hq : ks.length ≤ 4) (hk : ∀ k ∈ ks, 1 ≤ k ∧ k ≤ 5) (st : Int) : ∀ (q p ls : List Int) (x : Int), ks = p ++ q → p.length = ls.length → (∀ l ∈ ls, 0 ≤ l ∧ l ≤ 5) → 0 ≤ x → x + prodK q ≤ 10000 →
    Goes ⟨codeK ks, ks.length + 1, st⟩ (stepsK q) (toR (ks.length : Int) (ls.length : Int) ls x) (backR (ks.length : Int) ls (x + prodK q))
  | [], p, ls, x, h, hp, hb, hx, hx' => by
    have := go_add (ks := ks) (ls := ls) (x := x) (st := st) (by rw [h, ← hp]; simp) hq hb hx (by simp [prodK] at hx'; omega)
    exact this
  | k :: q, p, ls, x, h, hp, hb, hx, hx' => by
    have hkk := hk k (by rw [h]; simp)
    obtain ⟨a, b⟩ := go_in (x := x) (st := st) h hp hq hkk.1 hkk.2
    have hlen : ks.length = p.length + q.length + 1 := by rw [h]; simp; omega
    have inner : ∀ (m : Nat) (y : Int), m ≤ 4 → 0 ≤ y → y + ((m + 1) * prodK q : Nat) ≤ 10000 → Goes ⟨codeK ks, ks.length + 1, st⟩ ((m + 1) * stepsK q) (toR (ks.length : Int) ((ls.length : Int) + 1) ((m : Int) :: ls) y) (backR (ks.length : Int) ls (y + ((m + 1) * prodK q : Nat))) := by
      intro m
      induction m with
      | zero =>
        intro y hm hy hy'
        have := goes_all hq hk st q (p ++ [k]) (0 :: ls) y (by rw [h]; simp) (by simp [hp]) (fun l hl => by
          rcases List.mem_cons.1 hl with e | e
          · subst e; omega
          · exact hb l e) hy (by simpa using hy')
        rw [backR, if_pos rfl] at this
        simpa using this
      | succ m ih =>
        intro y hm hy hy'
        have hs : (m + 1 + 1) * prodK q = prodK q + (m + 1) * prodK q := by rw [Nat.add_mul (m + 1) 1]; omega
        have hs' : (m + 1 + 1) * stepsK q = stepsK q + (m + 1) * stepsK q := by rw [Nat.add_mul (m + 1) 1]; omega
        rw [hs] at hy' ⊢
        rw [hs']
        have := goes_all hq hk st q (p ++ [k]) (((m + 1 : Nat) : Int) :: ls) y (by rw [h]; simp) (by simp [hp]) (fun l hl => by
          rcases List.mem_cons.1 hl with e | e
          · subst e; omega
          · exact hb l e) hy (by omega)
        rw [backR, if_neg (by omega)] at this
        have em : ((m + 1 : Nat) : Int) - 1 = (m : Int) := by omega
        rw [em] at this
        have el : (((((m + 1 : Nat) : Int) :: ls).length : Nat) : Int) = (ls.length : Int) + 1 := by simp
        rw [el] at this
        have ih' := ih (y + prodK q) (by omega) (by omega) (by omega)
        have ey : y + ((prodK q + (m + 1) * prodK q : Nat) : Int) = y + (prodK q : Int) + (((m + 1) * prodK q : Nat) : Int) := by omega
        rw [ey]
        exact this.app ih'
    obtain ⟨m, hm⟩ : ∃ m : Nat, k = (m : Int) + 1 := ⟨(k - 1).toNat, by omega⟩
    have e1 : k.toNat = m + 1 := by omega
    have e2 : k - 1 = (m : Int) := by omega
    rw [e2] at b
    have := inner m x (by omega) hx (by simpa [prodK, e1] using hx')
    rw [stepsK, prodK, e1, Nat.add_comm 1]
    exact .step a b this
termination_by q => q.length
theorem loops_run {ks : List Int} (hq : ks.length ≤ 4) (hk : ∀ k ∈ ks, 1 ≤ k ∧ k ≤ 5) (hp : prodK ks ≤ 1000) (hs : stepsK ks ≤ 2000) (st : Int) : ∃ lt, runGo stV1 (stepsK ks : Int) (stepsK ks : Int).toNat (RS.start (freshR 0 0 0) ⟨codeK ks, ks.length + 1, st⟩) = ⟨toR (ks.length : Int) ((ks.length : Int) + 1) [] (prodK ks : Int), ⟨codeK ks, ks.length + 1, st⟩, stepsK ks, (stepsK ks : Int), lt, -1, 0⟩ ∧ okGo stV1 okMem (stepsK ks : Int) (stepsK ks : Int).toNat (RS.start (freshR 0 0 0) ⟨codeK ks, ks.length + 1, st⟩) := by
  have h := goes_all hq hk st ks [] [] 0 rfl rfl (fun _ h => by cases h) (by omega) (by omega)
  have e0 : toR (ks.length : Int) ((([] : List Int).length : Nat) : Int) [] 0 = freshR 0 0 0 := rfl
  rw [e0, Int.zero_add] at h
  obtain ⟨lt, a, b⟩ := h.run 0 0 0 (by omega) (by omega)
  have z : (((0 : Nat) : Int) + (stepsK ks : Int)) = (stepsK ks : Int) := by omega
  have z' : ((0 : Int) + (stepsK ks : Int)) = (stepsK ks : Int) := by omega
  have zn : 0 + stepsK ks = stepsK ks := by omega
  rw [z, z', zn] at a
  rw [z] at b
  have zt : (stepsK ks : Int).toNat = stepsK ks := by omega
  rw [zt]
  exact ⟨lt, a, b⟩
end Go.Proofs.YthmalhakkdjilaaDoor
