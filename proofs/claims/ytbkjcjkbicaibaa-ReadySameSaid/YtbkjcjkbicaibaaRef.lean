/-
  The reference's Find and insert. Each statement bears its own conditions.
-/
import Derived.Test.YtbkjcjkbicaibaaApartM
namespace Go.Proofs.Ytbkjcjkbicaibaa
open Go.RowKit
set_option linter.unusedVariables false
set_option linter.unusedSimpArgs false
/-- Pairs as cells. -/
def P2 : List (Int × Int) → List Value
  | [] => []
  | x :: L => .int .i64 x.1 :: .int .i64 x.2 :: P2 L
theorem P2_app (L M : List (Int × Int)) : P2 (L ++ M) = P2 L ++ P2 M := by
  induction L with
  | nil => rfl
  | cons x L ih => simp [P2, ih]
theorem P2_len (L : List (Int × Int)) : (P2 L).length = L.length * 2 := by
  induction L with
  | nil => rfl
  | cons x L ih => simp [P2, ih]; omega
theorem P2_one (L : List (Int × Int)) : ∀ u ∈ P2 L, u.oneCell' = true := by
  induction L with
  | nil => intro u hu; cases hu
  | cons x L ih =>
    intro u hu
    rcases List.mem_cons.1 hu with rfl | hu
    · rfl
    · rcases List.mem_cons.1 hu with rfl | hu
      · rfl
      · exact ih u hu
theorem P2_at (L : List (Int × Int)) : ∀ (i : Nat), i < L.length → (P2 L)[i * 2]? = some (.int .i64 (L.getD i (0, 0)).1) ∧ (P2 L)[i * 2 + 1]? = some (.int .i64 (L.getD i (0, 0)).2) := by
  induction L with
  | nil => intro i h; simp at h
  | cons x L ih =>
    intro i h
    cases i with
    | zero => exact ⟨rfl, rfl⟩
    | succ i =>
      have := ih i (by simpa using h)
      rw [show (i + 1) * 2 = i * 2 + 1 + 1 by omega]
      simpa [P2] using this
theorem P2_drop (L : List (Int × Int)) : ∀ i, (P2 L).drop (i * 2) = P2 (L.drop i) := by
  induction L with
  | nil => intro i; simp [P2]
  | cons x L ih =>
    intro i
    cases i with
    | zero => rfl
    | succ i =>
      rw [show (i + 1) * 2 = i * 2 + 1 + 1 by omega]
      simpa [P2] using ih i
theorem P2_take (L : List (Int × Int)) : ∀ i, (P2 L).take (i * 2) = P2 (L.take i) := by
  induction L with
  | nil => intro i; simp [P2]
  | cons x L ih =>
    intro i
    cases i with
    | zero => rfl
    | succ i =>
      rw [show (i + 1) * 2 = i * 2 + 1 + 1 by omega]
      simpa [P2] using ih i
theorem pair_info : (Try.prog.info? 49).map (fun i => (i.zero, i.size, i.bytes)) = some (some (.agg #[.int .i64 0, .int .i64 0]), 2, 16) := by kernel_rfl
theorem take_getP {L : List (Int × Int)} {j : Nat} (h : j < L.length) : L.take (j + 1) = L.take j ++ [L.getD j (0, 0)] := by
  rw [List.take_add_one, List.getD_eq_getElem?_getD, List.getElem?_eq_getElem h]; rfl
theorem place_p {w : World} {B n : Nat} {A : Option Addr} {L : List (Int × Int)} (h : Reads w B 2 A n (P2 L)) (hn : 0 < n) : ∃ b off, A = some ⟨b, off, none⟩ ∧ b < B ∧ L.length = n ∧ ∀ i, i < n → w.cell? ⟨b, off + i * 2, none⟩ = some (.int .i64 (L.getD i (0, 0)).1) ∧ w.cell? ⟨b, off + i * 2 + 1, none⟩ = some (.int .i64 (L.getD i (0, 0)).2) := by
  obtain ⟨⟨b, off, spot⟩, hA, hb, hc⟩ := h.2 hn
  have hl : L.length = n := by have := h.1; rw [P2_len] at this; omega
  have e0 := hc (0 * 2) _ (P2_at L 0 (by omega)).1
  have hs : spot = none := by simpa [Addr.add] using World.cell?_spot e0
  subst hs
  refine ⟨b, off, hA, hb, hl, fun i hi => ?_⟩
  have a := hc _ _ (P2_at L i (by omega)).1
  have b := hc _ _ (P2_at L i (by omega)).2
  rw [Addr.add_lit] at a b
  exact ⟨a, by rw [Nat.add_assoc]; exact b⟩
theorem own_ofP {B : Nat} {W w w' : World} {v v' : Value} {n n' : Nat} {l l' : List (Int × Int)} (hown : w.ownsRow B 49 2 v n (P2 l)) (hW : Below B W w) (hB : B ≤ w.heap.size) (hown' : w'.ownsRow B 49 2 v' n' (P2 l')) (hg : w.grownBy w' v.ownBlock) :
    ∃ A c, v' = .slice A n' c ∧ w'.ownsRow B 49 2 (.slice A n' c) n' (P2 l') ∧ Below B W w' := by
  obtain ⟨A, c, hv⟩ := slice_form hown'
  exact ⟨A, c, hv, hv ▸ hown', hW.grown hg hB (fun q hq => (hown.lt q hq).1)⟩
theorem reads_newP (w : World) (x y : Int) : Reads (w.alloc (.cells #[.int .i64 x, .int .i64 y] 49)) (w.heap.size + 1) 2 (some ⟨w.heap.size, 0, none⟩) 1 (P2 [(x, y)]) :=
  ⟨by simp [P2], fun _ => ⟨_, rfl, by simp, fun j u hu => by
    rw [Addr.add_lit, Nat.zero_add, World.cell?_alloc_new]; simpa [P2] using hu⟩⟩
/-- A place of an id. -/
def Fn (m : List (Int × Int)) (id r : Int) : Prop := (∃ k : Nat, k < m.length ∧ r = (k : Int) ∧ (m.getD k (0, 0)).1 = id) ∨ (r = -1 ∧ ∀ k, k < m.length → (m.getD k (0, 0)).1 ≠ id)
structure FrRel (n : Nat) (L : List (Int × Int)) (id : Int) (w : World) (iv : Value) (wr : World) : Prop where
  ex : ∃ j : Nat, j ≤ n ∧ iv = .int .i64 (j : Int) ∧ (∀ k, k < j → (L.getD k (0, 0)).1 ≠ id) ∧ wr = w
set_option maxRecDepth 100000 in
theorem rfind_any (A : Option Addr) (n c : Nat) (id : Int) (L : List (Int × Int)) (w : World) (B : Nat) (h : Reads w B 2 A n (P2 L)) (hL : L.length = n) (hn : n ≤ 1000) :
    Calls Try.prog 14 #[.slice A n c, .int .i64 id] w fun e w' => ∃ r, e = .returned (.int .i64 r) ∧ Fn L id r ∧ w' = w := by
  have H := Lib.hid h
  have HL := Lib.hid hL
  have HN := Lib.hid hn
  clear h hL hn
  go_enter Try.func14, Try.ntmps14
  go_wp2_with fail
  go_loopw [5] (fun i wr => FrRel n L id w i wr) (fun i => fun _ => 1001 - (intOf i).toNat)
  case atStart => exact ⟨⟨0, Nat.zero_le _, rfl, fun k hk => by omega, rfl⟩⟩
  case round =>
    obtain ⟨⟨j, hj, rfl, hall, hw⟩⟩ := hrel
    have hw := hw.symm
    subst hw
    have HALL := Lib.hid hall
    clear hall
    by_cases hlt : j < n
    · obtain ⟨b, off, rfl, _, _, hc⟩ := place_p H.out (by omega)
      obtain ⟨d0, d1⟩ := hc j hlt
      obtain ⟨x, hx⟩ : ∃ x, Hid ((L.getD j (0, 0)).1 = x) := ⟨_, rfl⟩
      rw [hx.out] at d0
      have hjI : (j : Int) < (n : Int) := by omega
      have hj2 : (j : Int) < 1000 := by have := HN.out; omega
      have HX : Hid (j < n) := hlt
      clear hc d1 hlt hj
      by_cases he : x = id
      · subst he
        go_wp2_with fail
        go_ret
        exact ⟨_, rfl, .inl ⟨j, by rw [HL.out]; exact HX.out, rfl, hx.out⟩, rfl⟩
      · have HE := Lib.hid he
        have heb : (x == id) = false := by simpa using he
        clear he
        go_wp2_with fail
        go_roundw
        case rel =>
          have Q : FrRel n L id w (.int .i64 ((j : Int) + 1)) w := ⟨⟨j + 1, HX.out, by go_num, fun k hk => by
            rcases Nat.lt_succ_iff_lt_or_eq.1 hk with h | h
            · exact HALL.out k h
            · rw [h, hx.out]; exact HE.out, rfl⟩⟩
          first | exact Q | ((repeat apply Exists.intro); exact ⟨Q, rfl⟩)
        case measure => have := HX.out; have := HN.out; simp [intOf]; omega
    · have hjI : ¬ (j : Int) < (n : Int) := by omega
      have HP : Hid (Fn L id (-1)) := .inr ⟨rfl, fun k hk => HALL.out k (by rw [HL.out] at hk; omega)⟩
      clear hlt hj
      go_wp2_with fail
      go_ret
      exact ⟨_, rfl, HP.out, rfl⟩
/-- Does one come before another? -/
def bef (p : Int) (ah : Bool) (y : Int × Int) : Bool := decide (y.2 < p) || (ah && decide (y.2 = p))
/-- Where a new one is put. -/
def InsR (m : List (Int × Int)) (x : Int × Int) (ah : Bool) (out : List (Int × Int)) : Prop :=
  ∃ i, i ≤ m.length ∧ out = m.take i ++ x :: m.drop i ∧ (∀ k, k < i → bef x.2 ah (m.getD k (0, 0)) = false) ∧ (i < m.length → bef x.2 ah (m.getD i (0, 0)) = true)
def InsA (m : List (Int × Int)) (x : Int × Int) (ah : Bool) (j : Nat) (put : Bool) (out : List (Int × Int)) : Prop :=
  (put = false ∧ out = m.take j ∧ ∀ k, k < j → bef x.2 ah (m.getD k (0, 0)) = false) ∨
  (put = true ∧ ∃ i, i < j ∧ out = m.take i ++ x :: (m.take j).drop i ∧ (∀ k, k < i → bef x.2 ah (m.getD k (0, 0)) = false) ∧ bef x.2 ah (m.getD i (0, 0)) = true)
section
variable {m out : List (Int × Int)} {x : Int × Int} {ah : Bool} {j : Nat}
theorem InsA.start : InsA m x ah 0 false [] := .inl ⟨rfl, by simp, fun k hk => by omega⟩
theorem InsA.on (h : InsA m x ah j true out) (hj : j < m.length) : InsA m x ah (j + 1) true (out ++ [m.getD j (0, 0)]) := by
  rcases h with ⟨h, _⟩ | ⟨_, i, hi, rfl, h1, h2⟩
  · cases h
  · refine .inr ⟨rfl, i, by omega, ?_, h1, h2⟩
    rw [take_getP hj, List.drop_append_of_le_length (by rw [List.length_take]; omega)]
    simp
theorem InsA.not (h : InsA m x ah j false out) (hj : j < m.length) (hb : bef x.2 ah (m.getD j (0, 0)) = false) : InsA m x ah (j + 1) false (out ++ [m.getD j (0, 0)]) := by
  rcases h with ⟨_, rfl, h1⟩ | ⟨h, _⟩
  · refine .inl ⟨rfl, (take_getP hj).symm, fun k hk => ?_⟩
    rcases Nat.lt_succ_iff_lt_or_eq.1 hk with h | h
    · exact h1 k h
    · rw [h]; exact hb
  · cases h
theorem InsA.now (h : InsA m x ah j false out) (hj : j < m.length) (hb : bef x.2 ah (m.getD j (0, 0)) = true) : InsA m x ah (j + 1) true ((out ++ [x]) ++ [m.getD j (0, 0)]) := by
  rcases h with ⟨_, rfl, h1⟩ | ⟨h, _⟩
  · refine .inr ⟨rfl, j, by omega, ?_, h1, hb⟩
    rw [take_getP hj, List.drop_append_of_le_length (by rw [List.length_take]; omega), List.drop_of_length_le (by rw [List.length_take]; omega)]
    simp
  · cases h
theorem InsA.len {put : Bool} (h : InsA m x ah j put out) : out.length ≤ j + 1 := by
  rcases h with ⟨_, rfl, _⟩ | ⟨_, i, hi, rfl, _⟩
  · rw [List.length_take]; omega
  · rw [List.length_append, List.length_cons, List.length_drop, List.length_take, List.length_take]; omega
theorem InsA.end1 (h : InsA m x ah m.length true out) : InsR m x ah out := by
  rcases h with ⟨h, _⟩ | ⟨_, i, hi, rfl, h1, h2⟩
  · cases h
  · exact ⟨i, by omega, by rw [List.take_length], h1, fun _ => h2⟩
theorem InsA.end0 (h : InsA m x ah m.length false out) : InsR m x ah (out ++ [x]) := by
  rcases h with ⟨_, rfl, h1⟩ | ⟨h, _⟩
  · exact ⟨m.length, Nat.le_refl _, by simp, h1, fun h => by omega⟩
  · cases h
end
structure NiRel (n : Nat) (m : List (Int × Int)) (x : Int × Int) (ah : Bool) (W : World) (v7 v8 v9 : Value) (wr : World) : Prop where
  ex : ∃ (j : Nat) (A : Option Addr) (c k : Nat) (out : List (Int × Int)) (put : Bool), j ≤ n ∧ v9 = .int .i64 (j : Int) ∧ v8 = .bool put ∧ v7 = .slice A k c ∧ wr.ownsRow W.heap.size 49 2 (.slice A k c) k (P2 out) ∧ out.length = k ∧ InsA m x ah j put out ∧ Below W.heap.size W wr
/-- A slice of pairs that is new, or as it was. -/
structure NR (w w' : World) (A A' : Option Addr) (n' c' : Nat) (m' : List (Int × Int)) : Prop where
  cap : n' ≤ c'
  rd : Reads w' w'.heap.size 2 A' n' (P2 m')
  len : m'.length = n'
  fr : A' = A ∨ ∀ ad, A' = some ad → w.heap.size ≤ ad.block ∧ ad.block < w'.heap.size
  bl : Below w.heap.size w w'
theorem own_cap {w : World} {A : Option Addr} {n c B cap : Nat} {e : TypeId} {xs : List Value} (o : w.ownsRow B e 2 (.slice A n c) n xs) (hn : 0 < n) (hc : c = cap) : n ≤ cap := by
  subst hc
  rcases o.2 with h0 | ⟨g, cap, cur, hv, hg, _, h1, _⟩
  · omega
  · injection hv with _ _ hv; omega
theorem NR.of_own {w w' : World} {A A' : Option Addr} {n' c' B : Nat} {m' : List (Int × Int)} (o : w'.ownsRow B 49 2 (.slice A' n' c') n' (P2 m')) (hB : w.heap.size ≤ B) (b : Below w.heap.size w w') : NR w w' A A' n' c' m' := by
  refine ⟨?_, Reads.of_own o, ?_, .inr fun ad e => ?_, b⟩
  · by_cases hn : n' = 0
    · omega
    · obtain ⟨g, cap, hv, h1, _⟩ := o.form (by omega)
      injection hv with _ _ hv
      rw [hv]; exact own_cap o (by omega) hv
  · have := o.1; rw [P2_len] at this; omega
  · subst e
    rcases o.2 with h0 | ⟨g, cap, cur, hv, hg, hh, _⟩
    · have h1 := h0.1
      injection h1 with h1; cases h1
    · injection hv with hv; cases hv
      exact ⟨by simp; omega, (Array.getElem?_eq_some_iff.1 hh).1⟩
set_option maxRecDepth 100000 in
set_option maxHeartbeats 8000000 in
theorem rins_any (A : Option Addr) (n c : Nat) (id p : Int) (ah : Bool) (m : List (Int × Int)) (w : World) (B : Nat) (h : Reads w B 2 A n (P2 m)) (hL : m.length = n) (hn : n ≤ 1000) (hB : B ≤ w.heap.size) :
    Calls Try.prog 37 #[.slice A n c, .agg #[.int .i64 id, .int .i64 p], .bool ah] w fun e w' => ∃ A' n' c' m', e = .returned (.slice A' n' c') ∧ InsR m (id, p) ah m' ∧ NR w w' A A' n' c' m' := by
  obtain ⟨i0, hi, hz0, hz1, hz2⟩ := info_of pair_info
  obtain ⟨ah', hah⟩ : ∃ a, Hid (a = ah) := ⟨_, rfl⟩
  have HL := Lib.hid hL
  have HN := Lib.hid hn
  obtain ⟨W1, hW1⟩ : ∃ W1, w.alloc (.cells #[.int .i64 id, .int .i64 p] 49) = W1 := ⟨_, rfl⟩
  have BW : Hid (Below w.heap.size w W1) := by unfold Hid; rw [← hW1]; exact (Below.refl _ _).alloc (Nat.le_refl _) _
  have H := Lib.hid (h.below (BW.out.mono hB))
  obtain ⟨xb, hxb⟩ : ∃ x, w.heap.size = x := ⟨_, rfl⟩
  have CX : Hid (W1.cell? ⟨xb, 0, none⟩ = some (.int .i64 id) ∧ W1.cell? ⟨xb, 1, none⟩ = some (.int .i64 p)) := by
    unfold Hid; rw [← hW1, ← hxb]; exact ⟨by rw [World.cell?_alloc_new]; rfl, by rw [World.cell?_alloc_new]; rfl⟩
  have HSZ : Hid (w.heap.size ≤ W1.heap.size) := BW.out.size
  clear h hL hn hB
  rw [← hah.out]
  go_enter Try.func37, Try.ntmps37
  go_wp2_with fail
  --A
  clear hW1 hxb
  go_loopw [7, 8, 9] (fun v7 v8 v9 wr => NiRel n m (id, p) ah' W1 v7 v8 v9 wr) (fun _ _ i => fun _ => 1001 - (intOf i).toNat)
  case atStart => exact ⟨⟨0, none, 0, 0, [], false, Nat.zero_le _, rfl, rfl, rfl, World.ownsRow_nil _ _ _ _, rfl, InsA.start, Below.refl _ _⟩⟩
  case round =>
    obtain ⟨⟨j, A1, c1, k, out, put, hj, rfl, rfl, rfl, ho, hm, hia, hb⟩⟩ := hrel
    have HB := Lib.hid hb
    have HO := Lib.hid ho
    have HM := Lib.hid hm
    have HIA := Lib.hid hia
    have HJ := Lib.hid hj
    have HKB : Hid (k ≤ 1001) := by unfold Hid; have := hia.len; have := HN.out; omega
    clear hb ho hm hia hj
    by_cases hlt : j < n
    · obtain ⟨b, off, rfl, _, _, hc⟩ := place_p H.out (by omega)
      obtain ⟨c0, c1'⟩ := hc j hlt
      obtain ⟨⟨y, q⟩, hy⟩ : ∃ x, m.getD j (0, 0) = x := ⟨_, rfl⟩
      rw [hy] at c0 c1'
      have HY := Lib.hid hy
      have C0 : Hid (W1.cell? ⟨b, off + j * 2, none⟩ = some (.int .i64 y) ∧ W1.cell? ⟨b, off + j * 2 + 1, none⟩ = some (.int .i64 q)) := ⟨c0, c1'⟩
      have d0 := cell_later HB.out C0.out.1
      have d1 := cell_later HB.out C0.out.2
      have x0 := cell_later HB.out CX.out.1
      have x1 := cell_later HB.out CX.out.2
      have hjI : (j : Int) < (n : Int) := by omega
      have hj2 : (j : Int) < 1000 := by have := HN.out; omega
      have HX : Hid (j < n) := hlt
      clear hc c0 c1' hlt hy
      cases put
      · by_cases hq : q < p
        · have HBF : Hid (bef p ah' (m.getD j (0, 0)) = true) := by unfold Hid bef; rw [HY.out]; simp [hq]
          go_wp2_with fail
          refine wp_region_held_drew (S := (fun w' => Below wr.heap.size wr w' ∧ w'.cell? ⟨b, off + j * 2 + 1, none⟩ = some (.int .i64 q) ∧ w'.cell? ⟨xb, 1, none⟩ = some (.int .i64 p))) (by kernel_rfl) ?_ (fun hHeld => ?_)
          · exact ⟨(Below.refl _ _).drew, d1, x1⟩
          refine takeD (i := 0) (d := some 16) (v := ?_) _ rfl rfl (by kernel_rfl) (by kernel_rfl) (by kernel_rfl) (fun _ _ _ h => h) (by rfl) ?_ (by assumption) ?_
          rotate_left
          · (intro w hSw; (try dsimp only at hSw); go_simp) <;> with_reducible rfl
          try simp only [Act.put, List.setIfInBounds_toArray, List.set_cons_zero, List.set_cons_succ]
          refine takeD (i := 1) (d := some 17) (v := ?_) _ rfl rfl (by kernel_rfl) (by kernel_rfl) (by kernel_rfl) (fun _ _ _ h => h) (by rfl) ?_ (by assumption) ?_
          rotate_left
          · (intro w hSw; (try dsimp only at hSw); go_simp) <;> with_reducible rfl
          try simp only [Act.put, List.setIfInBounds_toArray, List.set_cons_zero, List.set_cons_succ]
          refine takeD (i := 2) (d := some 18) (v := ?_) _ rfl rfl (by kernel_rfl) (by kernel_rfl) (by kernel_rfl) (fun _ _ _ h => h) (by rfl) ?_ (by assumption) ?_
          rotate_left
          · (intro w hSw; (try dsimp only at hSw); go_simp) <;> with_reducible rfl
          try simp only [Act.put, List.setIfInBounds_toArray, List.set_cons_zero, List.set_cons_succ]
          refine takeD (i := 3) (d := some 19) (v := ?_) _ rfl rfl (by kernel_rfl) (by kernel_rfl) (by kernel_rfl) (fun _ _ _ h => h) (by rfl) ?_ (by assumption) ?_
          rotate_left
          · (intro w hSw; (try dsimp only at hSw); go_simp) <;> with_reducible rfl
          try simp only [Act.put, List.setIfInBounds_toArray, List.set_cons_zero, List.set_cons_succ]
          refine takeD (i := 4) (d := some 20) (v := ?_) _ rfl rfl (by kernel_rfl) (by kernel_rfl) (by kernel_rfl) (fun _ _ _ h => h) (by rfl) ?_ (by assumption) ?_
          rotate_left
          · (intro w hSw; (try dsimp only at hSw); go_simp) <;> with_reducible rfl
          try simp only [Act.put, List.setIfInBounds_toArray, List.set_cons_zero, List.set_cons_succ]
          refine takeD (i := 5) (d := some 21) (v := ?_) _ rfl rfl (by kernel_rfl) (by kernel_rfl) (by kernel_rfl) (fun _ _ _ h => h) (by rfl) ?_ (by assumption) ?_
          rotate_left
          · (intro w hSw; (try dsimp only at hSw); go_simp) <;> with_reducible rfl
          try simp only [Act.put, List.setIfInBounds_toArray, List.set_cons_zero, List.set_cons_succ]
          refine takeD (i := 6) (d := some 22) (v := ?_) _ rfl rfl (by kernel_rfl) (by kernel_rfl) (by kernel_rfl) (fun _ _ _ h => h) (by rfl) ?_ (by assumption) ?_
          rotate_left
          · (intro w hSw; (try dsimp only at hSw); go_simp) <;> with_reducible rfl
          try simp only [Act.put, List.setIfInBounds_toArray, List.set_cons_zero, List.set_cons_succ]
          refine takeD (i := 7) (d := some 23) (v := ?_) _ rfl rfl (by kernel_rfl) (by kernel_rfl) (by kernel_rfl) (fun _ _ _ h => h) (by rfl) ?_ (by assumption) ?_
          rotate_left
          · (intro w hSw; (try dsimp only at hSw); go_simp) <;> with_reducible rfl
          try simp only [Act.put, List.setIfInBounds_toArray, List.set_cons_zero, List.set_cons_succ]
          refine takeD (i := 8) (d := some 24) (v := ?_) _ rfl rfl (by kernel_rfl) (by kernel_rfl) (by kernel_rfl) (fun _ _ _ h => h) (by rfl) ?_ (by assumption) ?_
          rotate_left
          · (intro w hSw; (try dsimp only at hSw); go_simp) <;> with_reducible rfl
          try simp only [Act.put, List.setIfInBounds_toArray, List.set_cons_zero, List.set_cons_succ]
          refine takeD (i := 9) (d := some 25) (v := ?_) _ rfl rfl (by kernel_rfl) (by kernel_rfl) (by kernel_rfl) (fun _ _ _ h => h) (by rfl) ?_ (by assumption) ?_
          rotate_left
          · (intro w hSw; (try dsimp only at hSw); go_simp) <;> with_reducible rfl
          try simp only [Act.put, List.setIfInBounds_toArray, List.set_cons_zero, List.set_cons_succ]
          refine takeD (i := 10) (d := some 26) (v := ?_) _ rfl rfl (by kernel_rfl) (by kernel_rfl) (by kernel_rfl) (fun _ _ _ h => h) (by rfl) ?_ (by assumption) ?_
          rotate_left
          · (intro w hSw; (try dsimp only at hSw); go_simp) <;> with_reducible rfl
          try simp only [Act.put, List.setIfInBounds_toArray, List.set_cons_zero, List.set_cons_succ]
          refine takeD (i := 11) (d := some 27) (v := ?_) _ rfl rfl (by kernel_rfl) (by kernel_rfl) (by kernel_rfl) (fun _ _ _ h => h) (by rfl) ?_ (by assumption) ?_
          rotate_left
          · (intro w hSw; (try dsimp only at hSw); go_simp) <;> with_reducible rfl
          try simp only [Act.put, List.setIfInBounds_toArray, List.set_cons_zero, List.set_cons_succ]
          refine skipD (i := 12) (d := some 28) _ rfl rfl (by kernel_rfl) (by kernel_rfl) (by kernel_rfl) (fun _ _ _ h => h) (by rfl) (by assumption) ?_
          try simp only [Act.put, List.setIfInBounds_toArray, List.set_cons_zero, List.set_cons_succ]
          refine skipD (i := 13) (d := some 29) _ rfl rfl (by kernel_rfl) (by kernel_rfl) (by kernel_rfl) (fun _ _ _ h => h) (by rfl) (by assumption) ?_
          try simp only [Act.put, List.setIfInBounds_toArray, List.set_cons_zero, List.set_cons_succ]
          refine skipD (i := 14) (d := some 30) _ rfl rfl (by kernel_rfl) (by kernel_rfl) (by kernel_rfl) (fun _ _ _ h => h) (by rfl) (by assumption) ?_
          try simp only [Act.put, List.setIfInBounds_toArray, List.set_cons_zero, List.set_cons_succ]
          refine skipD (i := 15) (d := some 31) _ rfl rfl (by kernel_rfl) (by kernel_rfl) (by kernel_rfl) (fun _ _ _ h => h) (by rfl) (by assumption) ?_
          try simp only [Act.put, List.setIfInBounds_toArray, List.set_cons_zero, List.set_cons_succ]
          refine skipD (i := 16) (d := some 32) _ rfl rfl (by kernel_rfl) (by kernel_rfl) (by kernel_rfl) (fun _ _ _ h => h) (by rfl) (by assumption) ?_
          try simp only [Act.put, List.setIfInBounds_toArray, List.set_cons_zero, List.set_cons_succ]
          refine skipD (i := 17) (d := some 33) _ rfl rfl (by kernel_rfl) (by kernel_rfl) (by kernel_rfl) (fun _ _ _ h => h) (by rfl) (by assumption) ?_
          try simp only [Act.put, List.setIfInBounds_toArray, List.set_cons_zero, List.set_cons_succ]
          refine skipD (i := 18) (d := some 34) _ rfl rfl (by kernel_rfl) (by kernel_rfl) (by kernel_rfl) (fun _ _ _ h => h) (by rfl) (by assumption) ?_
          try simp only [Act.put, List.setIfInBounds_toArray, List.set_cons_zero, List.set_cons_succ]
          refine skipD (i := 19) (d := some 35) _ rfl rfl (by kernel_rfl) (by kernel_rfl) (by kernel_rfl) (fun _ _ _ h => h) (by rfl) (by assumption) ?_
          try simp only [Act.put, List.setIfInBounds_toArray, List.set_cons_zero, List.set_cons_succ]
          refine skipD (i := 20) (d := some 36) _ rfl rfl (by kernel_rfl) (by kernel_rfl) (by kernel_rfl) (fun _ _ _ h => h) (by rfl) (by assumption) ?_
          try simp only [Act.put, List.setIfInBounds_toArray, List.set_cons_zero, List.set_cons_succ]
          refine skipD (i := 21) (d := some 37) _ rfl rfl (by kernel_rfl) (by kernel_rfl) (by kernel_rfl) (fun _ _ _ h => h) (by rfl) (by assumption) ?_
          try simp only [Act.put, List.setIfInBounds_toArray, List.set_cons_zero, List.set_cons_succ]
          refine skipD (i := 22) (d := some 38) _ rfl rfl (by kernel_rfl) (by kernel_rfl) (by kernel_rfl) (fun _ _ _ h => h) (by rfl) (by assumption) ?_
          try simp only [Act.put, List.setIfInBounds_toArray, List.set_cons_zero, List.set_cons_succ]
          refine takeD (i := 23) (d := some 39) (v := ?_) _ rfl rfl (by kernel_rfl) (by kernel_rfl) (by kernel_rfl) (fun _ _ _ h => h) (by rfl) ?_ (by assumption) ?_
          rotate_left
          · (intro w hSw; (try dsimp only at hSw); go_simp) <;> with_reducible rfl
          try simp only [Act.put, List.setIfInBounds_toArray, List.set_cons_zero, List.set_cons_succ]
          refine takeD (i := 24) (d := some 40) (v := ?_) _ rfl rfl (by kernel_rfl) (by kernel_rfl) (by kernel_rfl) (fun _ _ _ h => h) (by rfl) ?_ (by assumption) ?_
          rotate_left
          · (intro w hSw; (try dsimp only at hSw); go_simp) <;> with_reducible rfl
          try simp only [Act.put, List.setIfInBounds_toArray, List.set_cons_zero, List.set_cons_succ]
          refine wpAnyH_done (by kernel_rfl) ?_ _
          have HBZ := Lib.hid (HB.out.trans (hHeld.1.mono HB.out.size))
          have HOZ : Hid (wr.drew.ownsRow W1.heap.size 49 2 (.slice A1 k c1) k (P2 out)) := own_below HO.out hHeld.1
          obtain ⟨wz, hwz⟩ : ∃ wz, wr.drew = wz := ⟨_, rfl⟩
          rw [hwz] at HBZ HOZ ⊢
          clear hHeld hwz HB HO d0 d1 x0 x1
          have d0 := cell_later HBZ.out C0.out.1
          have d1 := cell_later HBZ.out C0.out.2
          have x0 := cell_later HBZ.out CX.out.1
          have x1 := cell_later HBZ.out CX.out.2
          go_wp2_with (at_builtin; refine wpList_append_any _ rfl (.tmp 41) (.tmp 43) _ rfl W1.heap.size 49 i0 _ 2 16 Try.underlying25 hi hz0 hz1 hz2 rfl (by omega) (.slice A1 k c1) k (P2 out) rfl (own_below HOZ.out ((Below.refl _ _).alloc (Nat.le_refl _) _)) (wz.heap.size + 1) (some ⟨wz.heap.size, 0, none⟩) 1 1 (P2 [(id, p)]) rfl (reads_newP wz id p) (P2_one _) ?c2 ?c3 ?c4 ?_)
          case c2 => have := HKB.out; unfold maxLen; omega
          case c3 => have := HKB.out; omega
          case c4 => have := HBZ.out.size; simp; omega
          intro v8 w8 hown8 hg8 _
          have hown8' : w8.ownsRow W1.heap.size 49 2 v8 (k + 1) (P2 (out ++ [(id, p)])) := by rw [P2_app]; exact hown8
          obtain ⟨A2, c2, hv8, ho8, hb8⟩ := own_ofP (own_below HOZ.out ((Below.refl _ _).alloc (Nat.le_refl _) _)) (HBZ.out.alloc HBZ.out.size _) (by have := HBZ.out.size; simp; omega) hown8' hg8
          rw [hv8]
          have HO8 := Lib.hid ho8
          have HB8 := Lib.hid hb8
          clear hv8 hown8 hown8' hg8 ho8 hb8
          clear d0 d1 x0 x1
          have d0 := cell_later HB8.out C0.out.1
          have d1 := cell_later HB8.out C0.out.2
          have x0 := cell_later HB8.out CX.out.1
          have x1 := cell_later HB8.out CX.out.2
          go_wp2_with (at_builtin; refine wpList_append_any _ rfl (.tmp 45) (.tmp 50) _ rfl W1.heap.size 49 i0 _ 2 16 Try.underlying25 hi hz0 hz1 hz2 rfl (by omega) (.slice A2 (k + 1) c2) (k + 1) (P2 (out ++ [(id, p)])) rfl (own_below HO8.out ((Below.refl _ _).alloc (Nat.le_refl _) _)) (w8.heap.size + 1) (some ⟨w8.heap.size, 0, none⟩) 1 1 (P2 [(y, q)]) rfl (reads_newP w8 y q) (P2_one _) ?c2 ?c3 ?c4 ?_)
          case c2 => have := HKB.out; unfold maxLen; omega
          case c3 => have := HKB.out; omega
          case c4 => have := HB8.out.size; simp; omega
          intro v9 w9 hown9 hg9 _
          have hown9' : w9.ownsRow W1.heap.size 49 2 v9 ((k + 1) + 1) (P2 ((out ++ [(id, p)]) ++ [(y, q)])) := by rw [P2_app]; exact hown9
          obtain ⟨A3, c3, hv9, ho9, hb9⟩ := own_ofP (own_below HO8.out ((Below.refl _ _).alloc (Nat.le_refl _) _)) (HB8.out.alloc HB8.out.size _) (by have := HB8.out.size; simp; omega) hown9' hg9
          rw [hv9]
          have HO9 := Lib.hid ho9
          have HB9 := Lib.hid hb9
          clear hv9 hown9 hown9' hg9 ho9 hb9
          have HS : Hid (InsA m (id, p) ah' (j + 1) true ((out ++ [(id, p)]) ++ [(y, q)])) := by
            have := InsA.now HIA.out (by rw [HL.out]; exact HX.out) HBF.out
            rw [HY.out] at this
            exact this
          clear d0 d1 x0 x1
          go_wp2_with fail
          go_roundw
          case rel =>
            have Q : NiRel n m (id, p) ah' W1 (.slice A3 (k + 1 + 1) c3) (.bool true) (.int .i64 ((j : Int) + 1)) w9 := ⟨⟨j + 1, A3, c3, k + 1 + 1, (out ++ [(id, p)]) ++ [(y, q)], true, HX.out, by go_num, rfl, rfl, HO9.out, by simp [HM.out], HS.out, HB9.out⟩⟩
            first | exact Q | ((repeat apply Exists.intro); exact ⟨Q, rfl⟩)
          case measure => have := HX.out; have := HN.out; simp [intOf]; omega
        · have hqB : decide (q < p) = false := by rw [decide_eq_false_iff_not]; exact hq
          cases ah'
          · have HBF : Hid (bef p false (m.getD j (0, 0)) = false) := by unfold Hid bef; rw [HY.out]; simp; omega
            go_wp2_with fail
            refine wp_region_held_drew (S := (fun w' => Below wr.heap.size wr w' ∧ w'.cell? ⟨b, off + j * 2 + 1, none⟩ = some (.int .i64 q) ∧ w'.cell? ⟨xb, 1, none⟩ = some (.int .i64 p))) (by kernel_rfl) ?_ (fun hHeld => ?_)
            · exact ⟨(Below.refl _ _).drew, d1, x1⟩
            refine takeD (i := 0) (d := some 16) (v := ?_) _ rfl rfl (by kernel_rfl) (by kernel_rfl) (by kernel_rfl) (fun _ _ _ h => h) (by rfl) ?_ (by assumption) ?_
            rotate_left
            · (intro w hSw; (try dsimp only at hSw); go_simp) <;> with_reducible rfl
            try simp only [Act.put, List.setIfInBounds_toArray, List.set_cons_zero, List.set_cons_succ]
            refine takeD (i := 1) (d := some 17) (v := ?_) _ rfl rfl (by kernel_rfl) (by kernel_rfl) (by kernel_rfl) (fun _ _ _ h => h) (by rfl) ?_ (by assumption) ?_
            rotate_left
            · (intro w hSw; (try dsimp only at hSw); go_simp) <;> with_reducible rfl
            try simp only [Act.put, List.setIfInBounds_toArray, List.set_cons_zero, List.set_cons_succ]
            refine takeD (i := 2) (d := some 18) (v := ?_) _ rfl rfl (by kernel_rfl) (by kernel_rfl) (by kernel_rfl) (fun _ _ _ h => h) (by rfl) ?_ (by assumption) ?_
            rotate_left
            · (intro w hSw; (try dsimp only at hSw); go_simp) <;> with_reducible rfl
            try simp only [Act.put, List.setIfInBounds_toArray, List.set_cons_zero, List.set_cons_succ]
            refine takeD (i := 3) (d := some 19) (v := ?_) _ rfl rfl (by kernel_rfl) (by kernel_rfl) (by kernel_rfl) (fun _ _ _ h => h) (by rfl) ?_ (by assumption) ?_
            rotate_left
            · (intro w hSw; (try dsimp only at hSw); go_simp) <;> with_reducible rfl
            try simp only [Act.put, List.setIfInBounds_toArray, List.set_cons_zero, List.set_cons_succ]
            refine takeD (i := 4) (d := some 20) (v := ?_) _ rfl rfl (by kernel_rfl) (by kernel_rfl) (by kernel_rfl) (fun _ _ _ h => h) (by rfl) ?_ (by assumption) ?_
            rotate_left
            · (intro w hSw; (try dsimp only at hSw); go_simp) <;> with_reducible rfl
            try simp only [Act.put, List.setIfInBounds_toArray, List.set_cons_zero, List.set_cons_succ]
            refine takeD (i := 5) (d := some 21) (v := ?_) _ rfl rfl (by kernel_rfl) (by kernel_rfl) (by kernel_rfl) (fun _ _ _ h => h) (by rfl) ?_ (by assumption) ?_
            rotate_left
            · (intro w hSw; (try dsimp only at hSw); go_simp) <;> with_reducible rfl
            try simp only [Act.put, List.setIfInBounds_toArray, List.set_cons_zero, List.set_cons_succ]
            refine takeD (i := 6) (d := some 22) (v := ?_) _ rfl rfl (by kernel_rfl) (by kernel_rfl) (by kernel_rfl) (fun _ _ _ h => h) (by rfl) ?_ (by assumption) ?_
            rotate_left
            · (intro w hSw; (try dsimp only at hSw); go_simp) <;> with_reducible rfl
            try simp only [Act.put, List.setIfInBounds_toArray, List.set_cons_zero, List.set_cons_succ]
            refine takeD (i := 7) (d := some 23) (v := ?_) _ rfl rfl (by kernel_rfl) (by kernel_rfl) (by kernel_rfl) (fun _ _ _ h => h) (by rfl) ?_ (by assumption) ?_
            rotate_left
            · (intro w hSw; (try dsimp only at hSw); go_simp) <;> with_reducible rfl
            try simp only [Act.put, List.setIfInBounds_toArray, List.set_cons_zero, List.set_cons_succ]
            refine takeD (i := 8) (d := some 24) (v := ?_) _ rfl rfl (by kernel_rfl) (by kernel_rfl) (by kernel_rfl) (fun _ _ _ h => h) (by rfl) ?_ (by assumption) ?_
            rotate_left
            · (intro w hSw; (try dsimp only at hSw); go_simp) <;> with_reducible rfl
            try simp only [Act.put, List.setIfInBounds_toArray, List.set_cons_zero, List.set_cons_succ]
            refine takeD (i := 9) (d := some 25) (v := ?_) _ rfl rfl (by kernel_rfl) (by kernel_rfl) (by kernel_rfl) (fun _ _ _ h => h) (by rfl) ?_ (by assumption) ?_
            rotate_left
            · (intro w hSw; (try dsimp only at hSw); go_simp) <;> with_reducible rfl
            try simp only [Act.put, List.setIfInBounds_toArray, List.set_cons_zero, List.set_cons_succ]
            refine takeD (i := 10) (d := some 26) (v := ?_) _ rfl rfl (by kernel_rfl) (by kernel_rfl) (by kernel_rfl) (fun _ _ _ h => h) (by rfl) ?_ (by assumption) ?_
            rotate_left
            · (intro w hSw; (try dsimp only at hSw); go_simp) <;> with_reducible rfl
            try simp only [Act.put, List.setIfInBounds_toArray, List.set_cons_zero, List.set_cons_succ]
            refine takeD (i := 11) (d := some 27) (v := ?_) _ rfl rfl (by kernel_rfl) (by kernel_rfl) (by kernel_rfl) (fun _ _ _ h => h) (by rfl) ?_ (by assumption) ?_
            rotate_left
            · (intro w hSw; (try dsimp only at hSw); go_simp) <;> with_reducible rfl
            try simp only [Act.put, List.setIfInBounds_toArray, List.set_cons_zero, List.set_cons_succ]
            refine takeD (i := 12) (d := some 28) (v := ?_) _ rfl rfl (by kernel_rfl) (by kernel_rfl) (by kernel_rfl) (fun _ _ _ h => h) (by rfl) ?_ (by assumption) ?_
            rotate_left
            · (intro w hSw; (try dsimp only at hSw); go_simp) <;> with_reducible rfl
            try simp only [Act.put, List.setIfInBounds_toArray, List.set_cons_zero, List.set_cons_succ]
            refine takeD (i := 13) (d := some 29) (v := ?_) _ rfl rfl (by kernel_rfl) (by kernel_rfl) (by kernel_rfl) (fun _ _ _ h => h) (by rfl) ?_ (by assumption) ?_
            rotate_left
            · (intro w hSw; (try dsimp only at hSw); go_simp) <;> with_reducible rfl
            try simp only [Act.put, List.setIfInBounds_toArray, List.set_cons_zero, List.set_cons_succ]
            refine skipD (i := 14) (d := some 30) _ rfl rfl (by kernel_rfl) (by kernel_rfl) (by kernel_rfl) (fun _ _ _ h => h) (by rfl) (by assumption) ?_
            try simp only [Act.put, List.setIfInBounds_toArray, List.set_cons_zero, List.set_cons_succ]
            refine skipD (i := 15) (d := some 31) _ rfl rfl (by kernel_rfl) (by kernel_rfl) (by kernel_rfl) (fun _ _ _ h => h) (by rfl) (by assumption) ?_
            try simp only [Act.put, List.setIfInBounds_toArray, List.set_cons_zero, List.set_cons_succ]
            refine skipD (i := 16) (d := some 32) _ rfl rfl (by kernel_rfl) (by kernel_rfl) (by kernel_rfl) (fun _ _ _ h => h) (by rfl) (by assumption) ?_
            try simp only [Act.put, List.setIfInBounds_toArray, List.set_cons_zero, List.set_cons_succ]
            refine skipD (i := 17) (d := some 33) _ rfl rfl (by kernel_rfl) (by kernel_rfl) (by kernel_rfl) (fun _ _ _ h => h) (by rfl) (by assumption) ?_
            try simp only [Act.put, List.setIfInBounds_toArray, List.set_cons_zero, List.set_cons_succ]
            refine skipD (i := 18) (d := some 34) _ rfl rfl (by kernel_rfl) (by kernel_rfl) (by kernel_rfl) (fun _ _ _ h => h) (by rfl) (by assumption) ?_
            try simp only [Act.put, List.setIfInBounds_toArray, List.set_cons_zero, List.set_cons_succ]
            refine skipD (i := 19) (d := some 35) _ rfl rfl (by kernel_rfl) (by kernel_rfl) (by kernel_rfl) (fun _ _ _ h => h) (by rfl) (by assumption) ?_
            try simp only [Act.put, List.setIfInBounds_toArray, List.set_cons_zero, List.set_cons_succ]
            refine skipD (i := 20) (d := some 36) _ rfl rfl (by kernel_rfl) (by kernel_rfl) (by kernel_rfl) (fun _ _ _ h => h) (by rfl) (by assumption) ?_
            try simp only [Act.put, List.setIfInBounds_toArray, List.set_cons_zero, List.set_cons_succ]
            refine skipD (i := 21) (d := some 37) _ rfl rfl (by kernel_rfl) (by kernel_rfl) (by kernel_rfl) (fun _ _ _ h => h) (by rfl) (by assumption) ?_
            try simp only [Act.put, List.setIfInBounds_toArray, List.set_cons_zero, List.set_cons_succ]
            refine takeD (i := 22) (d := some 38) (v := ?_) _ rfl rfl (by kernel_rfl) (by kernel_rfl) (by kernel_rfl) (fun _ _ _ h => h) (by rfl) ?_ (by assumption) ?_
            rotate_left
            · (intro w hSw; (try dsimp only at hSw); go_simp) <;> with_reducible rfl
            try simp only [Act.put, List.setIfInBounds_toArray, List.set_cons_zero, List.set_cons_succ]
            refine takeD (i := 23) (d := some 39) (v := ?_) _ rfl rfl (by kernel_rfl) (by kernel_rfl) (by kernel_rfl) (fun _ _ _ h => h) (by rfl) ?_ (by assumption) ?_
            rotate_left
            · (intro w hSw; (try dsimp only at hSw); go_simp) <;> with_reducible rfl
            try simp only [Act.put, List.setIfInBounds_toArray, List.set_cons_zero, List.set_cons_succ]
            refine takeD (i := 24) (d := some 40) (v := ?_) _ rfl rfl (by kernel_rfl) (by kernel_rfl) (by kernel_rfl) (fun _ _ _ h => h) (by rfl) ?_ (by assumption) ?_
            rotate_left
            · (intro w hSw; (try dsimp only at hSw); go_simp) <;> with_reducible rfl
            try simp only [Act.put, List.setIfInBounds_toArray, List.set_cons_zero, List.set_cons_succ]
            refine wpAnyH_done (by kernel_rfl) ?_ _
            have HBZ := Lib.hid (HB.out.trans (hHeld.1.mono HB.out.size))
            have HOZ : Hid (wr.drew.ownsRow W1.heap.size 49 2 (.slice A1 k c1) k (P2 out)) := own_below HO.out hHeld.1
            obtain ⟨wz, hwz⟩ : ∃ wz, wr.drew = wz := ⟨_, rfl⟩
            rw [hwz] at HBZ HOZ ⊢
            clear hHeld hwz HB HO d0 d1 x0 x1
            have d0 := cell_later HBZ.out C0.out.1
            have d1 := cell_later HBZ.out C0.out.2
            have x0 := cell_later HBZ.out CX.out.1
            have x1 := cell_later HBZ.out CX.out.2
            go_wp2_with (at_builtin; refine wpList_append_any _ rfl (.tmp 45) (.tmp 50) _ rfl W1.heap.size 49 i0 _ 2 16 Try.underlying25 hi hz0 hz1 hz2 rfl (by omega) (.slice A1 k c1) k (P2 out) rfl (own_below HOZ.out ((Below.refl _ _).alloc (Nat.le_refl _) _)) (wz.heap.size + 1) (some ⟨wz.heap.size, 0, none⟩) 1 1 (P2 [(y, q)]) rfl (reads_newP wz y q) (P2_one _) ?c2 ?c3 ?c4 ?_)
            case c2 => have := HKB.out; unfold maxLen; omega
            case c3 => have := HKB.out; omega
            case c4 => have := HBZ.out.size; simp; omega
            intro v9 w9 hown9 hg9 _
            have hown9' : w9.ownsRow W1.heap.size 49 2 v9 (k + 1) (P2 (out ++ [(y, q)])) := by rw [P2_app]; exact hown9
            obtain ⟨A3, c3, hv9, ho9, hb9⟩ := own_ofP (own_below HOZ.out ((Below.refl _ _).alloc (Nat.le_refl _) _)) (HBZ.out.alloc HBZ.out.size _) (by have := HBZ.out.size; simp; omega) hown9' hg9
            rw [hv9]
            have HO9 := Lib.hid ho9
            have HB9 := Lib.hid hb9
            clear hv9 hown9 hown9' hg9 ho9 hb9
            have HS : Hid (InsA m (id, p) false (j + 1) false (out ++ [(y, q)])) := by
              have := InsA.not HIA.out (by rw [HL.out]; exact HX.out) HBF.out
              rw [HY.out] at this
              exact this
            clear d0 d1 x0 x1
            go_wp2_with fail
            go_roundw
            case rel =>
              have Q : NiRel n m (id, p) false W1 (.slice A3 (k + 1) c3) (.bool false) (.int .i64 ((j : Int) + 1)) w9 := ⟨⟨j + 1, A3, c3, k + 1, out ++ [(y, q)], false, HX.out, by go_num, rfl, rfl, HO9.out, by simp [HM.out], HS.out, HB9.out⟩⟩
              first | exact Q | ((repeat apply Exists.intro); exact ⟨Q, rfl⟩)
            case measure => have := HX.out; have := HN.out; simp [intOf]; omega
          · by_cases hqp : q = p
            · have HBF : Hid (bef p true (m.getD j (0, 0)) = true) := by unfold Hid bef; rw [HY.out]; simp [hqp]
              have hqe : (q == p) = true := by rw [beq_iff_eq]; exact hqp
              clear hqp
              go_wp2_with fail
              refine wp_region_held_drew (S := (fun w' => Below wr.heap.size wr w' ∧ w'.cell? ⟨b, off + j * 2 + 1, none⟩ = some (.int .i64 q) ∧ w'.cell? ⟨xb, 1, none⟩ = some (.int .i64 p))) (by kernel_rfl) ?_ (fun hHeld => ?_)
              · exact ⟨(Below.refl _ _).drew, d1, x1⟩
              refine takeD (i := 0) (d := some 16) (v := ?_) _ rfl rfl (by kernel_rfl) (by kernel_rfl) (by kernel_rfl) (fun _ _ _ h => h) (by rfl) ?_ (by assumption) ?_
              rotate_left
              · (intro w hSw; (try dsimp only at hSw); go_simp) <;> with_reducible rfl
              try simp only [Act.put, List.setIfInBounds_toArray, List.set_cons_zero, List.set_cons_succ]
              refine takeD (i := 1) (d := some 17) (v := ?_) _ rfl rfl (by kernel_rfl) (by kernel_rfl) (by kernel_rfl) (fun _ _ _ h => h) (by rfl) ?_ (by assumption) ?_
              rotate_left
              · (intro w hSw; (try dsimp only at hSw); go_simp) <;> with_reducible rfl
              try simp only [Act.put, List.setIfInBounds_toArray, List.set_cons_zero, List.set_cons_succ]
              refine takeD (i := 2) (d := some 18) (v := ?_) _ rfl rfl (by kernel_rfl) (by kernel_rfl) (by kernel_rfl) (fun _ _ _ h => h) (by rfl) ?_ (by assumption) ?_
              rotate_left
              · (intro w hSw; (try dsimp only at hSw); go_simp) <;> with_reducible rfl
              try simp only [Act.put, List.setIfInBounds_toArray, List.set_cons_zero, List.set_cons_succ]
              refine takeD (i := 3) (d := some 19) (v := ?_) _ rfl rfl (by kernel_rfl) (by kernel_rfl) (by kernel_rfl) (fun _ _ _ h => h) (by rfl) ?_ (by assumption) ?_
              rotate_left
              · (intro w hSw; (try dsimp only at hSw); go_simp) <;> with_reducible rfl
              try simp only [Act.put, List.setIfInBounds_toArray, List.set_cons_zero, List.set_cons_succ]
              refine takeD (i := 4) (d := some 20) (v := ?_) _ rfl rfl (by kernel_rfl) (by kernel_rfl) (by kernel_rfl) (fun _ _ _ h => h) (by rfl) ?_ (by assumption) ?_
              rotate_left
              · (intro w hSw; (try dsimp only at hSw); go_simp) <;> with_reducible rfl
              try simp only [Act.put, List.setIfInBounds_toArray, List.set_cons_zero, List.set_cons_succ]
              refine takeD (i := 5) (d := some 21) (v := ?_) _ rfl rfl (by kernel_rfl) (by kernel_rfl) (by kernel_rfl) (fun _ _ _ h => h) (by rfl) ?_ (by assumption) ?_
              rotate_left
              · (intro w hSw; (try dsimp only at hSw); go_simp) <;> with_reducible rfl
              try simp only [Act.put, List.setIfInBounds_toArray, List.set_cons_zero, List.set_cons_succ]
              refine takeD (i := 6) (d := some 22) (v := ?_) _ rfl rfl (by kernel_rfl) (by kernel_rfl) (by kernel_rfl) (fun _ _ _ h => h) (by rfl) ?_ (by assumption) ?_
              rotate_left
              · (intro w hSw; (try dsimp only at hSw); go_simp) <;> with_reducible rfl
              try simp only [Act.put, List.setIfInBounds_toArray, List.set_cons_zero, List.set_cons_succ]
              refine takeD (i := 7) (d := some 23) (v := ?_) _ rfl rfl (by kernel_rfl) (by kernel_rfl) (by kernel_rfl) (fun _ _ _ h => h) (by rfl) ?_ (by assumption) ?_
              rotate_left
              · (intro w hSw; (try dsimp only at hSw); go_simp) <;> with_reducible rfl
              try simp only [Act.put, List.setIfInBounds_toArray, List.set_cons_zero, List.set_cons_succ]
              refine takeD (i := 8) (d := some 24) (v := ?_) _ rfl rfl (by kernel_rfl) (by kernel_rfl) (by kernel_rfl) (fun _ _ _ h => h) (by rfl) ?_ (by assumption) ?_
              rotate_left
              · (intro w hSw; (try dsimp only at hSw); go_simp) <;> with_reducible rfl
              try simp only [Act.put, List.setIfInBounds_toArray, List.set_cons_zero, List.set_cons_succ]
              refine takeD (i := 9) (d := some 25) (v := ?_) _ rfl rfl (by kernel_rfl) (by kernel_rfl) (by kernel_rfl) (fun _ _ _ h => h) (by rfl) ?_ (by assumption) ?_
              rotate_left
              · (intro w hSw; (try dsimp only at hSw); go_simp) <;> with_reducible rfl
              try simp only [Act.put, List.setIfInBounds_toArray, List.set_cons_zero, List.set_cons_succ]
              refine takeD (i := 10) (d := some 26) (v := ?_) _ rfl rfl (by kernel_rfl) (by kernel_rfl) (by kernel_rfl) (fun _ _ _ h => h) (by rfl) ?_ (by assumption) ?_
              rotate_left
              · (intro w hSw; (try dsimp only at hSw); go_simp) <;> with_reducible rfl
              try simp only [Act.put, List.setIfInBounds_toArray, List.set_cons_zero, List.set_cons_succ]
              refine takeD (i := 11) (d := some 27) (v := ?_) _ rfl rfl (by kernel_rfl) (by kernel_rfl) (by kernel_rfl) (fun _ _ _ h => h) (by rfl) ?_ (by assumption) ?_
              rotate_left
              · (intro w hSw; (try dsimp only at hSw); go_simp) <;> with_reducible rfl
              try simp only [Act.put, List.setIfInBounds_toArray, List.set_cons_zero, List.set_cons_succ]
              refine takeD (i := 12) (d := some 28) (v := ?_) _ rfl rfl (by kernel_rfl) (by kernel_rfl) (by kernel_rfl) (fun _ _ _ h => h) (by rfl) ?_ (by assumption) ?_
              rotate_left
              · (intro w hSw; (try dsimp only at hSw); go_simp) <;> with_reducible rfl
              try simp only [Act.put, List.setIfInBounds_toArray, List.set_cons_zero, List.set_cons_succ]
              refine takeD (i := 13) (d := some 29) (v := ?_) _ rfl rfl (by kernel_rfl) (by kernel_rfl) (by kernel_rfl) (fun _ _ _ h => h) (by rfl) ?_ (by assumption) ?_
              rotate_left
              · (intro w hSw; (try dsimp only at hSw); go_simp) <;> with_reducible rfl
              try simp only [Act.put, List.setIfInBounds_toArray, List.set_cons_zero, List.set_cons_succ]
              refine takeD (i := 14) (d := some 30) (v := ?_) _ rfl rfl (by kernel_rfl) (by kernel_rfl) (by kernel_rfl) (fun _ _ _ h => h) (by rfl) ?_ (by assumption) ?_
              rotate_left
              · (intro w hSw; (try dsimp only at hSw); go_simp) <;> with_reducible rfl
              try simp only [Act.put, List.setIfInBounds_toArray, List.set_cons_zero, List.set_cons_succ]
              refine takeD (i := 15) (d := some 31) (v := ?_) _ rfl rfl (by kernel_rfl) (by kernel_rfl) (by kernel_rfl) (fun _ _ _ h => h) (by rfl) ?_ (by assumption) ?_
              rotate_left
              · (intro w hSw; (try dsimp only at hSw); go_simp) <;> with_reducible rfl
              try simp only [Act.put, List.setIfInBounds_toArray, List.set_cons_zero, List.set_cons_succ]
              refine takeD (i := 16) (d := some 32) (v := ?_) _ rfl rfl (by kernel_rfl) (by kernel_rfl) (by kernel_rfl) (fun _ _ _ h => h) (by rfl) ?_ (by assumption) ?_
              rotate_left
              · (intro w hSw; (try dsimp only at hSw); go_simp) <;> with_reducible rfl
              try simp only [Act.put, List.setIfInBounds_toArray, List.set_cons_zero, List.set_cons_succ]
              refine takeD (i := 17) (d := some 33) (v := ?_) _ rfl rfl (by kernel_rfl) (by kernel_rfl) (by kernel_rfl) (fun _ _ _ h => h) (by rfl) ?_ (by assumption) ?_
              rotate_left
              · (intro w hSw; (try dsimp only at hSw); go_simp) <;> with_reducible rfl
              try simp only [Act.put, List.setIfInBounds_toArray, List.set_cons_zero, List.set_cons_succ]
              refine takeD (i := 18) (d := some 34) (v := ?_) _ rfl rfl (by kernel_rfl) (by kernel_rfl) (by kernel_rfl) (fun _ _ _ h => h) (by rfl) ?_ (by assumption) ?_
              rotate_left
              · (intro w hSw; (try dsimp only at hSw); go_simp) <;> with_reducible rfl
              try simp only [Act.put, List.setIfInBounds_toArray, List.set_cons_zero, List.set_cons_succ]
              refine takeD (i := 19) (d := some 35) (v := ?_) _ rfl rfl (by kernel_rfl) (by kernel_rfl) (by kernel_rfl) (fun _ _ _ h => h) (by rfl) ?_ (by assumption) ?_
              rotate_left
              · (intro w hSw; (try dsimp only at hSw); go_simp) <;> with_reducible rfl
              try simp only [Act.put, List.setIfInBounds_toArray, List.set_cons_zero, List.set_cons_succ]
              refine takeD (i := 20) (d := some 36) (v := ?_) _ rfl rfl (by kernel_rfl) (by kernel_rfl) (by kernel_rfl) (fun _ _ _ h => h) (by rfl) ?_ (by assumption) ?_
              rotate_left
              · (intro w hSw; (try dsimp only at hSw); go_simp) <;> with_reducible rfl
              try simp only [Act.put, List.setIfInBounds_toArray, List.set_cons_zero, List.set_cons_succ]
              refine takeD (i := 21) (d := some 37) (v := ?_) _ rfl rfl (by kernel_rfl) (by kernel_rfl) (by kernel_rfl) (fun _ _ _ h => h) (by rfl) ?_ (by assumption) ?_
              rotate_left
              · (intro w hSw; (try dsimp only at hSw); go_simp) <;> with_reducible rfl
              try simp only [Act.put, List.setIfInBounds_toArray, List.set_cons_zero, List.set_cons_succ]
              refine takeD (i := 22) (d := some 38) (v := ?_) _ rfl rfl (by kernel_rfl) (by kernel_rfl) (by kernel_rfl) (fun _ _ _ h => h) (by rfl) ?_ (by assumption) ?_
              rotate_left
              · (intro w hSw; (try dsimp only at hSw); go_simp) <;> with_reducible rfl
              try simp only [Act.put, List.setIfInBounds_toArray, List.set_cons_zero, List.set_cons_succ]
              refine takeD (i := 23) (d := some 39) (v := ?_) _ rfl rfl (by kernel_rfl) (by kernel_rfl) (by kernel_rfl) (fun _ _ _ h => h) (by rfl) ?_ (by assumption) ?_
              rotate_left
              · (intro w hSw; (try dsimp only at hSw); go_simp) <;> with_reducible rfl
              try simp only [Act.put, List.setIfInBounds_toArray, List.set_cons_zero, List.set_cons_succ]
              refine takeD (i := 24) (d := some 40) (v := ?_) _ rfl rfl (by kernel_rfl) (by kernel_rfl) (by kernel_rfl) (fun _ _ _ h => h) (by rfl) ?_ (by assumption) ?_
              rotate_left
              · (intro w hSw; (try dsimp only at hSw); go_simp) <;> with_reducible rfl
              try simp only [Act.put, List.setIfInBounds_toArray, List.set_cons_zero, List.set_cons_succ]
              refine wpAnyH_done (by kernel_rfl) ?_ _
              have HBZ := Lib.hid (HB.out.trans (hHeld.1.mono HB.out.size))
              have HOZ : Hid (wr.drew.ownsRow W1.heap.size 49 2 (.slice A1 k c1) k (P2 out)) := own_below HO.out hHeld.1
              obtain ⟨wz, hwz⟩ : ∃ wz, wr.drew = wz := ⟨_, rfl⟩
              rw [hwz] at HBZ HOZ ⊢
              clear hHeld hwz HB HO d0 d1 x0 x1
              have d0 := cell_later HBZ.out C0.out.1
              have d1 := cell_later HBZ.out C0.out.2
              have x0 := cell_later HBZ.out CX.out.1
              have x1 := cell_later HBZ.out CX.out.2
              go_wp2_with (at_builtin; refine wpList_append_any _ rfl (.tmp 41) (.tmp 43) _ rfl W1.heap.size 49 i0 _ 2 16 Try.underlying25 hi hz0 hz1 hz2 rfl (by omega) (.slice A1 k c1) k (P2 out) rfl (own_below HOZ.out ((Below.refl _ _).alloc (Nat.le_refl _) _)) (wz.heap.size + 1) (some ⟨wz.heap.size, 0, none⟩) 1 1 (P2 [(id, p)]) rfl (reads_newP wz id p) (P2_one _) ?c2 ?c3 ?c4 ?_)
              case c2 => have := HKB.out; unfold maxLen; omega
              case c3 => have := HKB.out; omega
              case c4 => have := HBZ.out.size; simp; omega
              intro v8 w8 hown8 hg8 _
              have hown8' : w8.ownsRow W1.heap.size 49 2 v8 (k + 1) (P2 (out ++ [(id, p)])) := by rw [P2_app]; exact hown8
              obtain ⟨A2, c2, hv8, ho8, hb8⟩ := own_ofP (own_below HOZ.out ((Below.refl _ _).alloc (Nat.le_refl _) _)) (HBZ.out.alloc HBZ.out.size _) (by have := HBZ.out.size; simp; omega) hown8' hg8
              rw [hv8]
              have HO8 := Lib.hid ho8
              have HB8 := Lib.hid hb8
              clear hv8 hown8 hown8' hg8 ho8 hb8
              clear d0 d1 x0 x1
              have d0 := cell_later HB8.out C0.out.1
              have d1 := cell_later HB8.out C0.out.2
              have x0 := cell_later HB8.out CX.out.1
              have x1 := cell_later HB8.out CX.out.2
              go_wp2_with (at_builtin; refine wpList_append_any _ rfl (.tmp 45) (.tmp 50) _ rfl W1.heap.size 49 i0 _ 2 16 Try.underlying25 hi hz0 hz1 hz2 rfl (by omega) (.slice A2 (k + 1) c2) (k + 1) (P2 (out ++ [(id, p)])) rfl (own_below HO8.out ((Below.refl _ _).alloc (Nat.le_refl _) _)) (w8.heap.size + 1) (some ⟨w8.heap.size, 0, none⟩) 1 1 (P2 [(y, q)]) rfl (reads_newP w8 y q) (P2_one _) ?c2 ?c3 ?c4 ?_)
              case c2 => have := HKB.out; unfold maxLen; omega
              case c3 => have := HKB.out; omega
              case c4 => have := HB8.out.size; simp; omega
              intro v9 w9 hown9 hg9 _
              have hown9' : w9.ownsRow W1.heap.size 49 2 v9 ((k + 1) + 1) (P2 ((out ++ [(id, p)]) ++ [(y, q)])) := by rw [P2_app]; exact hown9
              obtain ⟨A3, c3, hv9, ho9, hb9⟩ := own_ofP (own_below HO8.out ((Below.refl _ _).alloc (Nat.le_refl _) _)) (HB8.out.alloc HB8.out.size _) (by have := HB8.out.size; simp; omega) hown9' hg9
              rw [hv9]
              have HO9 := Lib.hid ho9
              have HB9 := Lib.hid hb9
              clear hv9 hown9 hown9' hg9 ho9 hb9
              have HS : Hid (InsA m (id, p) true (j + 1) true ((out ++ [(id, p)]) ++ [(y, q)])) := by
                have := InsA.now HIA.out (by rw [HL.out]; exact HX.out) HBF.out
                rw [HY.out] at this
                exact this
              clear d0 d1 x0 x1
              go_wp2_with fail
              go_roundw
              case rel =>
                have Q : NiRel n m (id, p) true W1 (.slice A3 (k + 1 + 1) c3) (.bool true) (.int .i64 ((j : Int) + 1)) w9 := ⟨⟨j + 1, A3, c3, k + 1 + 1, (out ++ [(id, p)]) ++ [(y, q)], true, HX.out, by go_num, rfl, rfl, HO9.out, by simp [HM.out], HS.out, HB9.out⟩⟩
                first | exact Q | ((repeat apply Exists.intro); exact ⟨Q, rfl⟩)
              case measure => have := HX.out; have := HN.out; simp [intOf]; omega
            · have HBF : Hid (bef p true (m.getD j (0, 0)) = false) := by unfold Hid bef; rw [HY.out]; simp; omega
              have hqe : (q == p) = false := by rw [beq_eq_false_iff_ne]; exact hqp
              go_wp2_with fail
              refine wp_region_held_drew (S := (fun w' => Below wr.heap.size wr w' ∧ w'.cell? ⟨b, off + j * 2 + 1, none⟩ = some (.int .i64 q) ∧ w'.cell? ⟨xb, 1, none⟩ = some (.int .i64 p))) (by kernel_rfl) ?_ (fun hHeld => ?_)
              · exact ⟨(Below.refl _ _).drew, d1, x1⟩
              refine takeD (i := 0) (d := some 16) (v := ?_) _ rfl rfl (by kernel_rfl) (by kernel_rfl) (by kernel_rfl) (fun _ _ _ h => h) (by rfl) ?_ (by assumption) ?_
              rotate_left
              · (intro w hSw; (try dsimp only at hSw); go_simp) <;> with_reducible rfl
              try simp only [Act.put, List.setIfInBounds_toArray, List.set_cons_zero, List.set_cons_succ]
              refine takeD (i := 1) (d := some 17) (v := ?_) _ rfl rfl (by kernel_rfl) (by kernel_rfl) (by kernel_rfl) (fun _ _ _ h => h) (by rfl) ?_ (by assumption) ?_
              rotate_left
              · (intro w hSw; (try dsimp only at hSw); go_simp) <;> with_reducible rfl
              try simp only [Act.put, List.setIfInBounds_toArray, List.set_cons_zero, List.set_cons_succ]
              refine takeD (i := 2) (d := some 18) (v := ?_) _ rfl rfl (by kernel_rfl) (by kernel_rfl) (by kernel_rfl) (fun _ _ _ h => h) (by rfl) ?_ (by assumption) ?_
              rotate_left
              · (intro w hSw; (try dsimp only at hSw); go_simp) <;> with_reducible rfl
              try simp only [Act.put, List.setIfInBounds_toArray, List.set_cons_zero, List.set_cons_succ]
              refine takeD (i := 3) (d := some 19) (v := ?_) _ rfl rfl (by kernel_rfl) (by kernel_rfl) (by kernel_rfl) (fun _ _ _ h => h) (by rfl) ?_ (by assumption) ?_
              rotate_left
              · (intro w hSw; (try dsimp only at hSw); go_simp) <;> with_reducible rfl
              try simp only [Act.put, List.setIfInBounds_toArray, List.set_cons_zero, List.set_cons_succ]
              refine takeD (i := 4) (d := some 20) (v := ?_) _ rfl rfl (by kernel_rfl) (by kernel_rfl) (by kernel_rfl) (fun _ _ _ h => h) (by rfl) ?_ (by assumption) ?_
              rotate_left
              · (intro w hSw; (try dsimp only at hSw); go_simp) <;> with_reducible rfl
              try simp only [Act.put, List.setIfInBounds_toArray, List.set_cons_zero, List.set_cons_succ]
              refine takeD (i := 5) (d := some 21) (v := ?_) _ rfl rfl (by kernel_rfl) (by kernel_rfl) (by kernel_rfl) (fun _ _ _ h => h) (by rfl) ?_ (by assumption) ?_
              rotate_left
              · (intro w hSw; (try dsimp only at hSw); go_simp) <;> with_reducible rfl
              try simp only [Act.put, List.setIfInBounds_toArray, List.set_cons_zero, List.set_cons_succ]
              refine takeD (i := 6) (d := some 22) (v := ?_) _ rfl rfl (by kernel_rfl) (by kernel_rfl) (by kernel_rfl) (fun _ _ _ h => h) (by rfl) ?_ (by assumption) ?_
              rotate_left
              · (intro w hSw; (try dsimp only at hSw); go_simp) <;> with_reducible rfl
              try simp only [Act.put, List.setIfInBounds_toArray, List.set_cons_zero, List.set_cons_succ]
              refine takeD (i := 7) (d := some 23) (v := ?_) _ rfl rfl (by kernel_rfl) (by kernel_rfl) (by kernel_rfl) (fun _ _ _ h => h) (by rfl) ?_ (by assumption) ?_
              rotate_left
              · (intro w hSw; (try dsimp only at hSw); go_simp) <;> with_reducible rfl
              try simp only [Act.put, List.setIfInBounds_toArray, List.set_cons_zero, List.set_cons_succ]
              refine takeD (i := 8) (d := some 24) (v := ?_) _ rfl rfl (by kernel_rfl) (by kernel_rfl) (by kernel_rfl) (fun _ _ _ h => h) (by rfl) ?_ (by assumption) ?_
              rotate_left
              · (intro w hSw; (try dsimp only at hSw); go_simp) <;> with_reducible rfl
              try simp only [Act.put, List.setIfInBounds_toArray, List.set_cons_zero, List.set_cons_succ]
              refine takeD (i := 9) (d := some 25) (v := ?_) _ rfl rfl (by kernel_rfl) (by kernel_rfl) (by kernel_rfl) (fun _ _ _ h => h) (by rfl) ?_ (by assumption) ?_
              rotate_left
              · (intro w hSw; (try dsimp only at hSw); go_simp) <;> with_reducible rfl
              try simp only [Act.put, List.setIfInBounds_toArray, List.set_cons_zero, List.set_cons_succ]
              refine takeD (i := 10) (d := some 26) (v := ?_) _ rfl rfl (by kernel_rfl) (by kernel_rfl) (by kernel_rfl) (fun _ _ _ h => h) (by rfl) ?_ (by assumption) ?_
              rotate_left
              · (intro w hSw; (try dsimp only at hSw); go_simp) <;> with_reducible rfl
              try simp only [Act.put, List.setIfInBounds_toArray, List.set_cons_zero, List.set_cons_succ]
              refine takeD (i := 11) (d := some 27) (v := ?_) _ rfl rfl (by kernel_rfl) (by kernel_rfl) (by kernel_rfl) (fun _ _ _ h => h) (by rfl) ?_ (by assumption) ?_
              rotate_left
              · (intro w hSw; (try dsimp only at hSw); go_simp) <;> with_reducible rfl
              try simp only [Act.put, List.setIfInBounds_toArray, List.set_cons_zero, List.set_cons_succ]
              refine takeD (i := 12) (d := some 28) (v := ?_) _ rfl rfl (by kernel_rfl) (by kernel_rfl) (by kernel_rfl) (fun _ _ _ h => h) (by rfl) ?_ (by assumption) ?_
              rotate_left
              · (intro w hSw; (try dsimp only at hSw); go_simp) <;> with_reducible rfl
              try simp only [Act.put, List.setIfInBounds_toArray, List.set_cons_zero, List.set_cons_succ]
              refine takeD (i := 13) (d := some 29) (v := ?_) _ rfl rfl (by kernel_rfl) (by kernel_rfl) (by kernel_rfl) (fun _ _ _ h => h) (by rfl) ?_ (by assumption) ?_
              rotate_left
              · (intro w hSw; (try dsimp only at hSw); go_simp) <;> with_reducible rfl
              try simp only [Act.put, List.setIfInBounds_toArray, List.set_cons_zero, List.set_cons_succ]
              refine takeD (i := 14) (d := some 30) (v := ?_) _ rfl rfl (by kernel_rfl) (by kernel_rfl) (by kernel_rfl) (fun _ _ _ h => h) (by rfl) ?_ (by assumption) ?_
              rotate_left
              · (intro w hSw; (try dsimp only at hSw); go_simp) <;> with_reducible rfl
              try simp only [Act.put, List.setIfInBounds_toArray, List.set_cons_zero, List.set_cons_succ]
              refine takeD (i := 15) (d := some 31) (v := ?_) _ rfl rfl (by kernel_rfl) (by kernel_rfl) (by kernel_rfl) (fun _ _ _ h => h) (by rfl) ?_ (by assumption) ?_
              rotate_left
              · (intro w hSw; (try dsimp only at hSw); go_simp) <;> with_reducible rfl
              try simp only [Act.put, List.setIfInBounds_toArray, List.set_cons_zero, List.set_cons_succ]
              refine takeD (i := 16) (d := some 32) (v := ?_) _ rfl rfl (by kernel_rfl) (by kernel_rfl) (by kernel_rfl) (fun _ _ _ h => h) (by rfl) ?_ (by assumption) ?_
              rotate_left
              · (intro w hSw; (try dsimp only at hSw); go_simp) <;> with_reducible rfl
              try simp only [Act.put, List.setIfInBounds_toArray, List.set_cons_zero, List.set_cons_succ]
              refine takeD (i := 17) (d := some 33) (v := ?_) _ rfl rfl (by kernel_rfl) (by kernel_rfl) (by kernel_rfl) (fun _ _ _ h => h) (by rfl) ?_ (by assumption) ?_
              rotate_left
              · (intro w hSw; (try dsimp only at hSw); go_simp) <;> with_reducible rfl
              try simp only [Act.put, List.setIfInBounds_toArray, List.set_cons_zero, List.set_cons_succ]
              refine takeD (i := 18) (d := some 34) (v := ?_) _ rfl rfl (by kernel_rfl) (by kernel_rfl) (by kernel_rfl) (fun _ _ _ h => h) (by rfl) ?_ (by assumption) ?_
              rotate_left
              · (intro w hSw; (try dsimp only at hSw); go_simp) <;> with_reducible rfl
              try simp only [Act.put, List.setIfInBounds_toArray, List.set_cons_zero, List.set_cons_succ]
              refine takeD (i := 19) (d := some 35) (v := ?_) _ rfl rfl (by kernel_rfl) (by kernel_rfl) (by kernel_rfl) (fun _ _ _ h => h) (by rfl) ?_ (by assumption) ?_
              rotate_left
              · (intro w hSw; (try dsimp only at hSw); go_simp) <;> with_reducible rfl
              try simp only [Act.put, List.setIfInBounds_toArray, List.set_cons_zero, List.set_cons_succ]
              refine takeD (i := 20) (d := some 36) (v := ?_) _ rfl rfl (by kernel_rfl) (by kernel_rfl) (by kernel_rfl) (fun _ _ _ h => h) (by rfl) ?_ (by assumption) ?_
              rotate_left
              · (intro w hSw; (try dsimp only at hSw); go_simp) <;> with_reducible rfl
              try simp only [Act.put, List.setIfInBounds_toArray, List.set_cons_zero, List.set_cons_succ]
              refine takeD (i := 21) (d := some 37) (v := ?_) _ rfl rfl (by kernel_rfl) (by kernel_rfl) (by kernel_rfl) (fun _ _ _ h => h) (by rfl) ?_ (by assumption) ?_
              rotate_left
              · (intro w hSw; (try dsimp only at hSw); go_simp) <;> with_reducible rfl
              try simp only [Act.put, List.setIfInBounds_toArray, List.set_cons_zero, List.set_cons_succ]
              refine takeD (i := 22) (d := some 38) (v := ?_) _ rfl rfl (by kernel_rfl) (by kernel_rfl) (by kernel_rfl) (fun _ _ _ h => h) (by rfl) ?_ (by assumption) ?_
              rotate_left
              · (intro w hSw; (try dsimp only at hSw); go_simp) <;> with_reducible rfl
              try simp only [Act.put, List.setIfInBounds_toArray, List.set_cons_zero, List.set_cons_succ]
              refine takeD (i := 23) (d := some 39) (v := ?_) _ rfl rfl (by kernel_rfl) (by kernel_rfl) (by kernel_rfl) (fun _ _ _ h => h) (by rfl) ?_ (by assumption) ?_
              rotate_left
              · (intro w hSw; (try dsimp only at hSw); go_simp) <;> with_reducible rfl
              try simp only [Act.put, List.setIfInBounds_toArray, List.set_cons_zero, List.set_cons_succ]
              refine takeD (i := 24) (d := some 40) (v := ?_) _ rfl rfl (by kernel_rfl) (by kernel_rfl) (by kernel_rfl) (fun _ _ _ h => h) (by rfl) ?_ (by assumption) ?_
              rotate_left
              · (intro w hSw; (try dsimp only at hSw); go_simp) <;> with_reducible rfl
              try simp only [Act.put, List.setIfInBounds_toArray, List.set_cons_zero, List.set_cons_succ]
              refine wpAnyH_done (by kernel_rfl) ?_ _
              have HBZ := Lib.hid (HB.out.trans (hHeld.1.mono HB.out.size))
              have HOZ : Hid (wr.drew.ownsRow W1.heap.size 49 2 (.slice A1 k c1) k (P2 out)) := own_below HO.out hHeld.1
              obtain ⟨wz, hwz⟩ : ∃ wz, wr.drew = wz := ⟨_, rfl⟩
              rw [hwz] at HBZ HOZ ⊢
              clear hHeld hwz HB HO d0 d1 x0 x1
              have d0 := cell_later HBZ.out C0.out.1
              have d1 := cell_later HBZ.out C0.out.2
              have x0 := cell_later HBZ.out CX.out.1
              have x1 := cell_later HBZ.out CX.out.2
              go_wp2_with (at_builtin; refine wpList_append_any _ rfl (.tmp 45) (.tmp 50) _ rfl W1.heap.size 49 i0 _ 2 16 Try.underlying25 hi hz0 hz1 hz2 rfl (by omega) (.slice A1 k c1) k (P2 out) rfl (own_below HOZ.out ((Below.refl _ _).alloc (Nat.le_refl _) _)) (wz.heap.size + 1) (some ⟨wz.heap.size, 0, none⟩) 1 1 (P2 [(y, q)]) rfl (reads_newP wz y q) (P2_one _) ?c2 ?c3 ?c4 ?_)
              case c2 => have := HKB.out; unfold maxLen; omega
              case c3 => have := HKB.out; omega
              case c4 => have := HBZ.out.size; simp; omega
              intro v9 w9 hown9 hg9 _
              have hown9' : w9.ownsRow W1.heap.size 49 2 v9 (k + 1) (P2 (out ++ [(y, q)])) := by rw [P2_app]; exact hown9
              obtain ⟨A3, c3, hv9, ho9, hb9⟩ := own_ofP (own_below HOZ.out ((Below.refl _ _).alloc (Nat.le_refl _) _)) (HBZ.out.alloc HBZ.out.size _) (by have := HBZ.out.size; simp; omega) hown9' hg9
              rw [hv9]
              have HO9 := Lib.hid ho9
              have HB9 := Lib.hid hb9
              clear hv9 hown9 hown9' hg9 ho9 hb9
              have HS : Hid (InsA m (id, p) true (j + 1) false (out ++ [(y, q)])) := by
                have := InsA.not HIA.out (by rw [HL.out]; exact HX.out) HBF.out
                rw [HY.out] at this
                exact this
              clear d0 d1 x0 x1
              go_wp2_with fail
              go_roundw
              case rel =>
                have Q : NiRel n m (id, p) true W1 (.slice A3 (k + 1) c3) (.bool false) (.int .i64 ((j : Int) + 1)) w9 := ⟨⟨j + 1, A3, c3, k + 1, out ++ [(y, q)], false, HX.out, by go_num, rfl, rfl, HO9.out, by simp [HM.out], HS.out, HB9.out⟩⟩
                first | exact Q | ((repeat apply Exists.intro); exact ⟨Q, rfl⟩)
              case measure => have := HX.out; have := HN.out; simp [intOf]; omega
      · skip
        go_wp2_with fail
        refine wp_region_held_drew (S := (fun w' => Below wr.heap.size wr w' ∧ w'.cell? ⟨b, off + j * 2 + 1, none⟩ = some (.int .i64 q) ∧ w'.cell? ⟨xb, 1, none⟩ = some (.int .i64 p))) (by kernel_rfl) ?_ (fun hHeld => ?_)
        · exact ⟨(Below.refl _ _).drew, d1, x1⟩
        refine takeD (i := 0) (d := some 16) (v := ?_) _ rfl rfl (by kernel_rfl) (by kernel_rfl) (by kernel_rfl) (fun _ _ _ h => h) (by rfl) ?_ (by assumption) ?_
        rotate_left
        · (intro w hSw; (try dsimp only at hSw); go_simp) <;> with_reducible rfl
        try simp only [Act.put, List.setIfInBounds_toArray, List.set_cons_zero, List.set_cons_succ]
        refine takeD (i := 1) (d := some 17) (v := ?_) _ rfl rfl (by kernel_rfl) (by kernel_rfl) (by kernel_rfl) (fun _ _ _ h => h) (by rfl) ?_ (by assumption) ?_
        rotate_left
        · (intro w hSw; (try dsimp only at hSw); go_simp) <;> with_reducible rfl
        try simp only [Act.put, List.setIfInBounds_toArray, List.set_cons_zero, List.set_cons_succ]
        refine takeD (i := 2) (d := some 18) (v := ?_) _ rfl rfl (by kernel_rfl) (by kernel_rfl) (by kernel_rfl) (fun _ _ _ h => h) (by rfl) ?_ (by assumption) ?_
        rotate_left
        · (intro w hSw; (try dsimp only at hSw); go_simp) <;> with_reducible rfl
        try simp only [Act.put, List.setIfInBounds_toArray, List.set_cons_zero, List.set_cons_succ]
        refine skipD (i := 3) (d := some 19) _ rfl rfl (by kernel_rfl) (by kernel_rfl) (by kernel_rfl) (fun _ _ _ h => h) (by rfl) (by assumption) ?_
        try simp only [Act.put, List.setIfInBounds_toArray, List.set_cons_zero, List.set_cons_succ]
        refine skipD (i := 4) (d := some 20) _ rfl rfl (by kernel_rfl) (by kernel_rfl) (by kernel_rfl) (fun _ _ _ h => h) (by rfl) (by assumption) ?_
        try simp only [Act.put, List.setIfInBounds_toArray, List.set_cons_zero, List.set_cons_succ]
        refine skipD (i := 5) (d := some 21) _ rfl rfl (by kernel_rfl) (by kernel_rfl) (by kernel_rfl) (fun _ _ _ h => h) (by rfl) (by assumption) ?_
        try simp only [Act.put, List.setIfInBounds_toArray, List.set_cons_zero, List.set_cons_succ]
        refine skipD (i := 6) (d := some 22) _ rfl rfl (by kernel_rfl) (by kernel_rfl) (by kernel_rfl) (fun _ _ _ h => h) (by rfl) (by assumption) ?_
        try simp only [Act.put, List.setIfInBounds_toArray, List.set_cons_zero, List.set_cons_succ]
        refine skipD (i := 7) (d := some 23) _ rfl rfl (by kernel_rfl) (by kernel_rfl) (by kernel_rfl) (fun _ _ _ h => h) (by rfl) (by assumption) ?_
        try simp only [Act.put, List.setIfInBounds_toArray, List.set_cons_zero, List.set_cons_succ]
        refine skipD (i := 8) (d := some 24) _ rfl rfl (by kernel_rfl) (by kernel_rfl) (by kernel_rfl) (fun _ _ _ h => h) (by rfl) (by assumption) ?_
        try simp only [Act.put, List.setIfInBounds_toArray, List.set_cons_zero, List.set_cons_succ]
        refine skipD (i := 9) (d := some 25) _ rfl rfl (by kernel_rfl) (by kernel_rfl) (by kernel_rfl) (fun _ _ _ h => h) (by rfl) (by assumption) ?_
        try simp only [Act.put, List.setIfInBounds_toArray, List.set_cons_zero, List.set_cons_succ]
        refine skipD (i := 10) (d := some 26) _ rfl rfl (by kernel_rfl) (by kernel_rfl) (by kernel_rfl) (fun _ _ _ h => h) (by rfl) (by assumption) ?_
        try simp only [Act.put, List.setIfInBounds_toArray, List.set_cons_zero, List.set_cons_succ]
        refine skipD (i := 11) (d := some 27) _ rfl rfl (by kernel_rfl) (by kernel_rfl) (by kernel_rfl) (fun _ _ _ h => h) (by rfl) (by assumption) ?_
        try simp only [Act.put, List.setIfInBounds_toArray, List.set_cons_zero, List.set_cons_succ]
        refine skipD (i := 12) (d := some 28) _ rfl rfl (by kernel_rfl) (by kernel_rfl) (by kernel_rfl) (fun _ _ _ h => h) (by rfl) (by assumption) ?_
        try simp only [Act.put, List.setIfInBounds_toArray, List.set_cons_zero, List.set_cons_succ]
        refine skipD (i := 13) (d := some 29) _ rfl rfl (by kernel_rfl) (by kernel_rfl) (by kernel_rfl) (fun _ _ _ h => h) (by rfl) (by assumption) ?_
        try simp only [Act.put, List.setIfInBounds_toArray, List.set_cons_zero, List.set_cons_succ]
        refine skipD (i := 14) (d := some 30) _ rfl rfl (by kernel_rfl) (by kernel_rfl) (by kernel_rfl) (fun _ _ _ h => h) (by rfl) (by assumption) ?_
        try simp only [Act.put, List.setIfInBounds_toArray, List.set_cons_zero, List.set_cons_succ]
        refine skipD (i := 15) (d := some 31) _ rfl rfl (by kernel_rfl) (by kernel_rfl) (by kernel_rfl) (fun _ _ _ h => h) (by rfl) (by assumption) ?_
        try simp only [Act.put, List.setIfInBounds_toArray, List.set_cons_zero, List.set_cons_succ]
        refine skipD (i := 16) (d := some 32) _ rfl rfl (by kernel_rfl) (by kernel_rfl) (by kernel_rfl) (fun _ _ _ h => h) (by rfl) (by assumption) ?_
        try simp only [Act.put, List.setIfInBounds_toArray, List.set_cons_zero, List.set_cons_succ]
        refine skipD (i := 17) (d := some 33) _ rfl rfl (by kernel_rfl) (by kernel_rfl) (by kernel_rfl) (fun _ _ _ h => h) (by rfl) (by assumption) ?_
        try simp only [Act.put, List.setIfInBounds_toArray, List.set_cons_zero, List.set_cons_succ]
        refine skipD (i := 18) (d := some 34) _ rfl rfl (by kernel_rfl) (by kernel_rfl) (by kernel_rfl) (fun _ _ _ h => h) (by rfl) (by assumption) ?_
        try simp only [Act.put, List.setIfInBounds_toArray, List.set_cons_zero, List.set_cons_succ]
        refine skipD (i := 19) (d := some 35) _ rfl rfl (by kernel_rfl) (by kernel_rfl) (by kernel_rfl) (fun _ _ _ h => h) (by rfl) (by assumption) ?_
        try simp only [Act.put, List.setIfInBounds_toArray, List.set_cons_zero, List.set_cons_succ]
        refine skipD (i := 20) (d := some 36) _ rfl rfl (by kernel_rfl) (by kernel_rfl) (by kernel_rfl) (fun _ _ _ h => h) (by rfl) (by assumption) ?_
        try simp only [Act.put, List.setIfInBounds_toArray, List.set_cons_zero, List.set_cons_succ]
        refine skipD (i := 21) (d := some 37) _ rfl rfl (by kernel_rfl) (by kernel_rfl) (by kernel_rfl) (fun _ _ _ h => h) (by rfl) (by assumption) ?_
        try simp only [Act.put, List.setIfInBounds_toArray, List.set_cons_zero, List.set_cons_succ]
        refine skipD (i := 22) (d := some 38) _ rfl rfl (by kernel_rfl) (by kernel_rfl) (by kernel_rfl) (fun _ _ _ h => h) (by rfl) (by assumption) ?_
        try simp only [Act.put, List.setIfInBounds_toArray, List.set_cons_zero, List.set_cons_succ]
        refine skipD (i := 23) (d := some 39) _ rfl rfl (by kernel_rfl) (by kernel_rfl) (by kernel_rfl) (fun _ _ _ h => h) (by rfl) (by assumption) ?_
        try simp only [Act.put, List.setIfInBounds_toArray, List.set_cons_zero, List.set_cons_succ]
        refine takeD (i := 24) (d := some 40) (v := ?_) _ rfl rfl (by kernel_rfl) (by kernel_rfl) (by kernel_rfl) (fun _ _ _ h => h) (by rfl) ?_ (by assumption) ?_
        rotate_left
        · (intro w hSw; (try dsimp only at hSw); go_simp) <;> with_reducible rfl
        try simp only [Act.put, List.setIfInBounds_toArray, List.set_cons_zero, List.set_cons_succ]
        refine wpAnyH_done (by kernel_rfl) ?_ _
        have HBZ := Lib.hid (HB.out.trans (hHeld.1.mono HB.out.size))
        have HOZ : Hid (wr.drew.ownsRow W1.heap.size 49 2 (.slice A1 k c1) k (P2 out)) := own_below HO.out hHeld.1
        obtain ⟨wz, hwz⟩ : ∃ wz, wr.drew = wz := ⟨_, rfl⟩
        rw [hwz] at HBZ HOZ ⊢
        clear hHeld hwz HB HO d0 d1 x0 x1
        have d0 := cell_later HBZ.out C0.out.1
        have d1 := cell_later HBZ.out C0.out.2
        have x0 := cell_later HBZ.out CX.out.1
        have x1 := cell_later HBZ.out CX.out.2
        go_wp2_with (at_builtin; refine wpList_append_any _ rfl (.tmp 45) (.tmp 50) _ rfl W1.heap.size 49 i0 _ 2 16 Try.underlying25 hi hz0 hz1 hz2 rfl (by omega) (.slice A1 k c1) k (P2 out) rfl (own_below HOZ.out ((Below.refl _ _).alloc (Nat.le_refl _) _)) (wz.heap.size + 1) (some ⟨wz.heap.size, 0, none⟩) 1 1 (P2 [(y, q)]) rfl (reads_newP wz y q) (P2_one _) ?c2 ?c3 ?c4 ?_)
        case c2 => have := HKB.out; unfold maxLen; omega
        case c3 => have := HKB.out; omega
        case c4 => have := HBZ.out.size; simp; omega
        intro v9 w9 hown9 hg9 _
        have hown9' : w9.ownsRow W1.heap.size 49 2 v9 (k + 1) (P2 (out ++ [(y, q)])) := by rw [P2_app]; exact hown9
        obtain ⟨A3, c3, hv9, ho9, hb9⟩ := own_ofP (own_below HOZ.out ((Below.refl _ _).alloc (Nat.le_refl _) _)) (HBZ.out.alloc HBZ.out.size _) (by have := HBZ.out.size; simp; omega) hown9' hg9
        rw [hv9]
        have HO9 := Lib.hid ho9
        have HB9 := Lib.hid hb9
        clear hv9 hown9 hown9' hg9 ho9 hb9
        have HS : Hid (InsA m (id, p) ah' (j + 1) true (out ++ [(y, q)])) := by
          have := InsA.on HIA.out (by rw [HL.out]; exact HX.out)
          rw [HY.out] at this
          exact this
        clear d0 d1 x0 x1
        go_wp2_with fail
        go_roundw
        case rel =>
          have Q : NiRel n m (id, p) ah' W1 (.slice A3 (k + 1) c3) (.bool true) (.int .i64 ((j : Int) + 1)) w9 := ⟨⟨j + 1, A3, c3, k + 1, out ++ [(y, q)], true, HX.out, by go_num, rfl, rfl, HO9.out, by simp [HM.out], HS.out, HB9.out⟩⟩
          first | exact Q | ((repeat apply Exists.intro); exact ⟨Q, rfl⟩)
        case measure => have := HX.out; have := HN.out; simp [intOf]; omega
    · have hjI : ¬ (j : Int) < (n : Int) := by omega
      have hjn : j = n := by have := HJ.out; omega
      have x0 := cell_later HB.out CX.out.1
      have x1 := cell_later HB.out CX.out.2
      rw [hjn, ← HL.out] at HIA
      clear hlt hjn
      cases put
      · skip
        go_wp2_with (at_builtin; refine wpList_append_any _ rfl (.tmp 54) (.tmp 56) _ rfl W1.heap.size 49 i0 _ 2 16 Try.underlying25 hi hz0 hz1 hz2 rfl (by omega) (.slice A1 k c1) k (P2 out) rfl (own_below HO.out ((Below.refl _ _).alloc (Nat.le_refl _) _)) (wr.heap.size + 1) (some ⟨wr.heap.size, 0, none⟩) 1 1 (P2 [(id, p)]) rfl (reads_newP wr id p) (P2_one _) ?c2 ?c3 ?c4 ?_)
        case c2 => have := HKB.out; unfold maxLen; omega
        case c3 => have := HKB.out; omega
        case c4 => have := HB.out.size; simp; omega
        intro v9 w9 hown9 hg9 _
        have hown9' : w9.ownsRow W1.heap.size 49 2 v9 (k + 1) (P2 (out ++ [(id, p)])) := by rw [P2_app]; exact hown9
        obtain ⟨A3, c3, hv9, ho9, hb9⟩ := own_ofP (own_below HO.out ((Below.refl _ _).alloc (Nat.le_refl _) _)) (HB.out.alloc HB.out.size _) (by have := HB.out.size; simp; omega) hown9' hg9
        rw [hv9]
        have HO9 := Lib.hid ho9
        have HB9 := Lib.hid hb9
        clear hv9 hown9 hown9' hg9 ho9 hb9
        go_wp2_with fail
        go_ret
        first | exact ⟨_, _, _, rfl, _, HIA.out.end0, NR.of_own HO9.out HSZ.out (BW.out.trans (HB9.out.mono HSZ.out))⟩ | exact ⟨_, _, _, _, rfl, HIA.out.end0, NR.of_own HO9.out HSZ.out (BW.out.trans (HB9.out.mono HSZ.out))⟩
      · go_wp2_with fail
        go_ret
        have N9 : NR w wr A A1 k c1 out := NR.of_own HO.out HSZ.out (BW.out.trans (HB.out.mono HSZ.out))
        first | exact ⟨_, _, _, rfl, _, HIA.out.end1, N9⟩ | exact ⟨_, _, _, _, rfl, HIA.out.end1, N9⟩ | exact ⟨_, _, ⟨_, rfl⟩, _, HIA.out.end1, N9⟩
end Go.Proofs.Ytbkjcjkbicaibaa
