/-
  Drop of locks. Each statement bears its own conditions.
-/
import Derived.Test.YtbnnpfhgpbaedaaLkO
import Derived.Test.YtbnnpfhgpbaedaaLkQ
import Derived.Test.YtbnnpfhgpbaedaaLkU
import Derived.Test.YtbnnpfhgpbaedaaLkG
namespace Go.Proofs.Ytbnnpfhgpbaedaa.K
open Go.RowKit
set_option linter.unusedVariables false
set_option linter.unusedSimpArgs false
/-- Who is next. -/
def hd1 : List (Int × Int) → List Int
  | [] => []
  | x :: _ => [x.1]
theorem pass_eff (lo g bc bw bm N : Nat) (rb : Nat → Nat) (cs : List Int) (ws : Nat → List (Int × Int)) (os : Int → Option Int) (i : Nat) (w : World) (h : LV lo w g bc bw bm N rb cs ws os) (hi : i < cs.length) (hc : cs.length ≤ 16) (hL : (ws i).length ≤ 900) (hx : ∀ x ∈ ws i, (Lit.int .i64 x.1).wf = true) (hN : N < maxLen) :
    Calls Try.prog 40 #[.pointer (some ⟨g, 0, none⟩), .int .i64 (i : Int)] w fun e w' => ∃ A c rv N', e = .returned (.slice A (hd1 (ws i)).length c) ∧ I.RowV w' (.slice A (hd1 (ws i)).length c) rv (hd1 (ws i)) ∧ N' ≤ N + 1 ∧ LV lo w' g bc bw bm N' rb cs (putN ws i (ws i).tail) (put os (i : Int) ((ws i).head?.map (·.1))) ∧ Lx bw bm cs.length rb rb w w' := by
  cases hws : ws i with
  | nil =>
    refine (pass_none lo g bc bw bm N rb cs ws os i w h hi hc hws).mono ?_
    rintro e w' ⟨rfl, h1, h2⟩
    have e1 : putN ws i (([] : List (Int × Int)).tail) = ws := by rw [List.tail_nil, ← hws, putN_id]
    rw [e1]
    exact ⟨none, 0, 0, N, rfl, ⟨⟨rfl, .inl ⟨rfl, rfl⟩⟩, fun b hb => by cases hb⟩, by omega, h1, h2⟩
  | cons x L =>
    refine (pass_some lo g bc bw bm N rb cs ws os i x L w h hi hc hws (by rw [hws] at hL; simp at hL; omega) (hx x (by rw [hws]; exact List.mem_cons_self ..)) hN).mono ?_
    rintro e w' ⟨⟨A, c, rv, rfl, r1, _⟩, h1, h2⟩
    rw [putN_id, put_put] at h1
    rw [putN_id] at h2
    exact ⟨A, c, rv, N + 1, rfl, r1, Nat.le_refl _, h1, h2⟩
/-- Of whom the locks that are given back are. -/
def wk (ws : Nat → List (Int × Int)) (S : List Int) : List Int := S.flatMap fun k => hd1 (ws k.toNat)
def wsD (ws : Nat → List (Int × Int)) (S : List Int) (i : Nat) : List (Int × Int) := if (i : Int) ∈ S then (ws i).tail else ws i
def osD (ws : Nat → List (Int × Int)) (os : Int → Option Int) (S : List Int) (k : Int) : Option Int := if k ∈ S then (ws k.toNat).head?.map (·.1) else os k
theorem wsD_nil (ws : Nat → List (Int × Int)) : wsD ws [] = ws := by funext i; simp [wsD]
theorem osD_nil (ws : Nat → List (Int × Int)) (os : Int → Option Int) : osD ws os [] = os := by funext i; simp [osD]
theorem wsD_snoc (ws : Nat → List (Int × Int)) {S : List Int} {i : Nat} (h : (i : Int) ∉ S) : putN (wsD ws S) i ((wsD ws S) i).tail = wsD ws (S ++ [(i : Int)]) := by
  funext k
  unfold putN wsD
  by_cases hk : k = i
  · subst hk; simp [h]
  · have : ¬ (k : Int) = (i : Int) := by omega
    simp [hk, this]
theorem osD_snoc (ws : Nat → List (Int × Int)) (os : Int → Option Int) {S : List Int} {i : Nat} (h : (i : Int) ∉ S) : put (osD ws os S) (i : Int) (((wsD ws S) i).head?.map (·.1)) = osD ws os (S ++ [(i : Int)]) := by
  funext k
  unfold put osD wsD
  by_cases hk : k = (i : Int)
  · subst hk; simp [h]
  · simp [hk]
theorem wsD_snoc' {ws : Nat → List (Int × Int)} {S : List Int} {i : Nat} (e : wsD ws S i = ws i) (h : (i : Int) ∉ S) : putN (wsD ws S) i (ws i).tail = wsD ws (S ++ [(i : Int)]) := by
  rw [← wsD_snoc ws h, e]
theorem osD_snoc' {ws : Nat → List (Int × Int)} {os : Int → Option Int} {S : List Int} {i : Nat} (e : wsD ws S i = ws i) (h : (i : Int) ∉ S) : put (osD ws os S) (i : Int) ((ws i).head?.map (·.1)) = osD ws os (S ++ [(i : Int)]) := by
  rw [← osD_snoc ws os h, e]
theorem I.getD_in' {L : List Int} {j : Nat} (h : j < L.length) : L.getD j 0 ∈ L := by
  rw [List.getD_eq_getElem?_getD, List.getElem?_eq_getElem h]; exact List.getElem_mem h
theorem wk_snoc (ws : Nat → List (Int × Int)) {S : List Int} {i : Nat} : wk ws (S ++ [(i : Int)]) = wk ws S ++ hd1 (ws i) := by simp [wk]
theorem hd1_len (L : List (Int × Int)) : (hd1 L).length ≤ 1 := by cases L <;> simp [hd1]
theorem wk_len (ws : Nat → List (Int × Int)) : ∀ S : List Int, (wk ws S).length ≤ S.length
  | [] => Nat.le_refl _
  | x :: S => by
    have h1 := wk_len ws S
    have h2 := hd1_len (ws x.toNat)
    have e : wk ws (x :: S) = hd1 (ws x.toNat) ++ wk ws S := by simp [wk]
    rw [e, List.length_append, List.length_cons]; omega
theorem Lx.fo {bw bm n : Nat} {rb rb' : Nat → Nat} {w w' : World} (x : Lx bw bm n rb rb' w w') : F.Fo (fun b => b = bw ∨ b = bm ∨ ∃ i, i < n ∧ b = rb i) w w' :=
  ⟨x.os, x.tape, x.output, x.size, fun k hk hn => x.block k hk (fun e => hn (.inl e)) (fun e => hn (.inr (.inl e))) (fun i hi e => hn (.inr (.inr ⟨i, hi, e⟩)))⟩
theorem LV.keep2 {lo g bc bw bm N : Nat} {rb : Nat → Nat} {cs : List Int} {ws : Nat → List (Int × Int)} {os : Int → Option Int} {w w' : World} (h : LV lo w g bc bw bm N rb cs ws os) (hs : w.heap.size ≤ w'.heap.size) (hk : ∀ b, b < w.heap.size → Blk g bc bw bm cs.length rb b → w'.heap[b]? = w.heap[b]?) : LV lo w' g bc bw bm N rb cs ws os := by
  obtain ⟨vc, cw, a, b, c⟩ := h.hd
  obtain ⟨vs, d, e, f⟩ := h.ls
  refine ⟨h.low, ⟨by have := h.lt.1; omega, by have := h.lt.2.1; omega, by have := h.lt.2.2.1; omega, fun i hi => by have := h.lt.2.2.2 i hi; omega⟩, h.ap, ⟨vc, cw, (hk g h.lt.1 (.inl rfl)).trans a, b.keep ?_, c.imp (fun h => h) fun c => ⟨by omega, c.2⟩⟩, ⟨vs, d, (hk bw h.lt.2.1 (.inr (.inr (.inl rfl)))).trans e, fun i hi => ?_⟩, h.mp.keep (hk bm h.lt.2.2.1 (.inr (.inr (.inr (.inl rfl)))))⟩
  · rcases c with c | c
    · exact .inl c
    · exact .inr (hk bc c.1 (.inr (.inl rfl)))
  · obtain ⟨v, f1, f2, f3⟩ := f i hi
    exact ⟨v, f1, f2.keep (.inr (hk (rb i) (h.lt.2.2.2 i hi) (.inr (.inr (.inr (.inr ⟨i, hi, rfl⟩)))))), f3⟩
theorem heldP_nd (os : Int → Option Int) (id : Int) : ∀ n, (heldP os id n).Nodup
  | 0 => by simp [heldP]
  | n + 1 => by
    unfold heldP
    split
    · refine List.nodup_append.2 ⟨heldP_nd os id n, by simp, fun a ha b hb => ?_⟩
      obtain ⟨k, hk, e⟩ := heldP_lt os id n a ha
      rw [List.mem_singleton] at hb
      omega
    · rw [List.append_nil]; exact heldP_nd os id n
/-- Who leaves. -/
def LvR (ws : Nat → List (Int × Int)) (n : Nat) (id : Int) (ws1 : Nat → List (Int × Int)) : Prop :=
  (NoId ws n id ∧ ws1 = ws) ∨ ∃ i j, FindR ws n id i j true ∧ ws1 = putN ws i ((ws i).take j ++ (ws i).drop (j + 1))
theorem LvR.sub {ws ws1 : Nat → List (Int × Int)} {n : Nat} {id : Int} (h : LvR ws n id ws1) : ∀ k, (ws1 k).length ≤ (ws k).length ∧ ∀ x ∈ ws1 k, x ∈ ws k := by
  intro k
  rcases h with ⟨_, rfl⟩ | ⟨i, j, _, rfl⟩
  · exact ⟨Nat.le_refl _, fun x hx => hx⟩
  · unfold putN
    split
    · next e =>
      subst e
      refine ⟨by rw [List.length_append, List.length_take, List.length_drop]; omega, fun x hx => ?_⟩
      rcases List.mem_append.1 hx with hx | hx
      · exact List.mem_of_mem_take hx
      · exact List.mem_of_mem_drop hx
    · exact ⟨Nat.le_refl _, fun x hx => hx⟩
theorem leave_any (lo g bc bw bm N : Nat) (rb : Nat → Nat) (cs : List Int) (ws : Nat → List (Int × Int)) (os : Int → Option Int) (id : Int) (w : World) (h : LV lo w g bc bw bm N rb cs ws os) (hn : cs.length ≤ 16) (hl : ∀ i, i < cs.length → (ws i).length ≤ 900) :
    Calls Try.prog 19 #[.pointer (some ⟨g, 0, none⟩), .int .i64 id] w fun e w' => ∃ r ws1, e = .returned r ∧ LvR ws cs.length id ws1 ∧ LV lo w' g bc bw bm N rb cs ws1 os ∧ Lx bw bm cs.length rb rb w w' := by
  by_cases hq : NoId ws cs.length id
  · refine (leave_none lo g bc bw bm N rb cs ws os id w h hn hl hq).mono ?_
    rintro e w' ⟨rfl, h1, h2⟩
    exact ⟨_, ws, rfl, .inl ⟨hq, rfl⟩, h1, h2⟩
  · refine (leave_some lo g bc bw bm N rb cs ws os id w h hn hl hq).mono ?_
    rintro e w' ⟨rfl, i, j, hf, h1, h2⟩
    rw [putN_id] at h1 h2
    exact ⟨_, _, rfl, .inr ⟨i, j, hf, rfl⟩, h1, h2⟩
end Go.Proofs.Ytbnnpfhgpbaedaa.K
