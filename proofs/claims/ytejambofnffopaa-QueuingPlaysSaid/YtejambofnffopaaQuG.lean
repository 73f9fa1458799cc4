/-
  The example of the document; what comes in. Each statement bears its own conditions.
-/
import Derived.Test.YtejambofnffopaaQuF
namespace Go.Proofs.Ytejambofnffopaa.Q
open Go.RowKit Go.Proofs.Ytejambofnffopaa.F Go.Proofs.Ytejambofnffopaa.U
open Go.ChangeShapes Go.WideShapes Go.ChangeAt
set_option linter.unusedVariables false
set_option linter.unusedSimpArgs false
theorem he_qu : ∀ (x : Nat) (w : World), (binOp .eql 23 (.pointer (some ⟨x, 0, none⟩)) (.pointer none)).run Try.prog w = .ok (.bool false) w := fun _ _ => rfl
theorem chk_one (n fr full : Int) (K : List Int) : chkV n fr full [K] = if n < (K.length : Int) then 2 else if fr < 1 then full else 0 := by
  unfold chkV big
  simp
set_option maxRecDepth 100000 in
set_option maxHeartbeats 8000000 in
theorem known_any (w : World) : Calls Try.prog 11 #[] w fun e w' => e = .returned (.bool true) ∧ Below w.heap.size w w' := by
  have he := he_qu
  obtain ⟨lo, hlo⟩ : ∃ lo, w.heap.size = lo := ⟨_, rfl⟩
  have NW := Lib.hid (new_any (fun _ => True) 2 1 w (by omega) (by omega) (by omega) (by omega))
  have HLO : Hid (lo ≤ w.heap.size ∧ w.heap.size ≤ lo) := by unfold Hid; omega
  rw [hlo] at NW ⊢
  clear hlo
  go_enter Try.func11, Try.ntmps11
  go_wp2_with fail
  refine NW.out.mono ?_
  rintro e w1 ⟨rfl, q1, b1⟩
  have Q1 := Lib.hid q1
  have B1 := Lib.hid b1
  clear q1 b1 NW
  have hx : Below w1.heap.size w1 (w1.alloc (.cells #[.int .u32 7] 52)) := (Below.refl _ _).alloc (Nat.le_refl _) _
  have S2 := Lib.hid (Sq.lit w1 #[.int .u32 7] 52 1 1 rfl)
  have Q2 := Lib.hid (Q1.out.below hx)
  have B2 : Hid (Below lo w (w1.alloc (.cells #[.int .u32 7] 52))) := B1.out.trans (hx.mono Q1.out.nil)
  clear hx
  go_wp2_with fail
  refine (push_ok lo _ (fun _ => True) lo 2 1 [] false _ _ 1 1 [7] _ Q2.out S2.out (by rw [chk_one]; rfl) (fun _ _ => trivial)).mono ?_
  rintro e w3 ⟨q, rfl, q3, n3⟩
  have Q3 : Hid (QV lo w3 q (fun _ => True) lo 2 1 [[7]] false) := q3
  have B3 : Hid (Below lo w w3) := B2.out.trans (Q2.out.nx n3)
  clear q3 n3 S2 Q2 B2 Q1 B1
  have hx : Below w3.heap.size w3 (w3.alloc (.cells #[.int .u32 8] 52)) := (Below.refl _ _).alloc (Nat.le_refl _) _
  have S4 := Lib.hid (Sq.lit w3 #[.int .u32 8] 52 1 1 rfl)
  have Q4 := Lib.hid (Q3.out.below hx)
  have B4 : Hid (Below lo w (w3.alloc (.cells #[.int .u32 8] 52))) := B3.out.trans (hx.mono Q3.out.nil)
  clear hx
  go_wp2_with fail
  refine (push_full lo _ (fun _ => True) lo 2 1 [[7]] false _ _ 1 1 [8] _ Q4.out S4.out (by rw [chk_one]; rfl)).mono ?_
  rintro e w5 ⟨q5, rfl, q5', n5⟩
  have Q5 : Hid (QV lo w5 q5 (fun _ => True) lo 2 1 [[7]] true) := q5'
  have B5 : Hid (Below lo w w5) := B4.out.trans (Q4.out.nx n5)
  clear q5' n5 S4 Q4 B4 Q3 B3
  go_wp2_with fail
  refine (receive_some lo _ (fun _ => True) lo 2 1 [[7]] true [7] [] _ Q5.out rfl).mono ?_
  rintro e w6 ⟨A6, c6, q6, rfl, o6, q6', n6⟩
  have O6 := Lib.hid o6
  have Q6 : Hid (QV lo w6 q6 (fun _ => True) lo 2 1 [] false) := q6'
  have B6 : Hid (Below lo w w6) := B5.out.trans (Q5.out.nx n6)
  clear o6 q6' n6 Q5 B5
  go_wp2_with fail
  refine (receive_none lo _ (fun _ => True) lo 2 1 [] false _ Q6.out rfl).mono ?_
  rintro e w7 ⟨q7, rfl, q7', n7⟩
  have O7 : Hid (Ow 52 w7 (fun _ => True) (.slice A6 1 c6) 1 (CU [7])) := ((O6.out.off Q6.out.ty).fo n7.fo fun b hb => hb.2).imp fun _ _ _ => trivial
  have B7 : Hid (Below lo w w7) := B6.out.trans (Q6.out.nx n7)
  clear q7' n7 O6 Q6 B6
  have hx : Below w7.heap.size w7 (w7.alloc (.cells #[.int .u32 7] 52)) := (Below.refl _ _).alloc (Nat.le_refl _) _
  have L8 := Lib.hid (Sq.lit w7 #[.int .u32 7] 52 1 1 rfl)
  have O8 := Lib.hid (O7.out.below hx)
  have B8 : Hid (Below lo w (w7.alloc (.cells #[.int .u32 7] 52))) := B7.out.trans (hx.mono (by have := B7.out.size; have := HLO.out; omega))
  clear hx O7 B7
  go_wp2_with fail
  refine (lsame_any _ _ _ _ [7] [7] _ O8.out.sq.st L8.out.st (by simp)).mono ?_
  rintro e w9 ⟨he9, b9⟩
  simp only [decide_true] at he9
  subst he9
  have B9 : Hid (Below lo w w9) := B8.out.trans (b9.mono (by have := B8.out.size; have := HLO.out; omega))
  clear b9 B8 L8 O8
  go_wp2_with fail
  go_ret
  exact ⟨rfl, B9.out⟩
def IsRow (k : IntKind) (w : World) (a : Option Addr) (len cap : Nat) (zs : List Int) : Prop :=
  (a = none ∧ len = 0 ∧ cap = 0 ∧ zs = []) ∨
  ∃ x, a = some x ∧ len ≤ cap ∧ cap ≤ maxLen ∧ zs.length = cap ∧ (∀ i, i < zs.length → w.cell? (x.add i) = some (.int k (zs.getD i 0))) ∧ ∀ n ∈ zs, (Lit.int k n).wf = true
theorem IsRow.le {k : IntKind} {w : World} {a : Option Addr} {len cap : Nat} {zs : List Int} (h : IsRow k w a len cap zs) : len ≤ cap ∧ len ≤ zs.length := by
  rcases h with ⟨_, rfl, rfl, rfl⟩ | ⟨x, _, h1, _, h2, _⟩
  · simp
  · omega
theorem row_at {k : IntKind} {w : World} {a : Option Addr} {len cap : Nat} {zs : List Int} (h : IsRow k w a len cap zs) (hn : 0 < len) : ∃ b off, a = some ⟨b, off, none⟩ ∧ b < w.heap.size ∧ ∀ i, i < len → w.cell? ⟨b, off + i, none⟩ = some (.int k (zs.getD i 0)) ∧ (Lit.int k (zs.getD i 0)).wf = true := by
  rcases h with ⟨rfl, rfl, rfl, rfl⟩ | ⟨⟨b, off, spot⟩, rfl, h1, h2, h3, h4, h5⟩
  · omega
  · have e0 := h4 0 (by omega)
    have hs : spot = none := by simpa [Addr.add] using World.cell?_spot e0
    subst hs
    refine ⟨b, off, rfl, ?_, fun i hi => ⟨?_, ?_⟩⟩
    · have := World.block_lt_of_cell? _ _ e0
      simpa [block_of_add] using this
    · have := h4 i (by omega)
      rwa [Addr.add_lit] at this
    · apply h5
      rw [List.getD_eq_getElem?_getD, List.getElem?_eq_getElem (by omega)]
      exact List.getElem_mem _
/-- An argument is a list that is read. -/
theorem IsRow.sq {k : IntKind} {w : World} {a : Option Addr} {len cap : Nat} {zs : List Int} (h : IsRow k w a len cap zs) : Sq w (fun b => b < w.heap.size) (.slice a len cap) len ((zs.take len).map (Value.int k)) := by
  have hl := h.le
  refine ⟨a, cap, rfl, by rw [List.length_map, List.length_take]; omega, fun h0 => ?_⟩
  obtain ⟨b, off, rfl, hb, hc⟩ := row_at h h0
  refine ⟨b, off, rfl, hb, hb, fun j u hu => ?_⟩
  rw [List.getElem?_map] at hu
  have hj : j < len := by
    by_cases hj : j < len
    · exact hj
    · rw [List.getElem?_eq_none (by rw [List.length_take]; omega)] at hu; cases hu
  rw [(hc j hj).1]
  rw [List.getElem?_take_of_lt hj, List.getElem?_eq_getElem (by omega)] at hu
  simp only [Option.map_some, Option.some.injEq] at hu
  rw [← hu, List.getD_eq_getElem?_getD, List.getElem?_eq_getElem (by omega)]
  rfl
theorem cell_low {lo : Nat} {w w' : World} {b o : Nat} {u : Value} (h : Below lo w w') (hb : b < lo) (hc : w.cell? ⟨b, o, none⟩ = some u) : w'.cell? ⟨b, o, none⟩ = some u := (h.cell (by exact hb)).trans hc
theorem sq_low {lo : Nat} {w w' : World} {v : Value} {n : Nat} {xs : List Value} (h : Sq w (fun b => b < lo) v n xs) (hb : Below lo w w') : Sq w' (fun b => b < lo) v n xs := (h.keep hb.size fun b _ hp => hb.block b hp).imp fun b _ hb => hb.2
theorem evfield_of {H : Type} {enc : TypeId × Value → H} {P : Program} {W : World} {base : Nat} {held : Bool} {t : TypeId} {fs : Array Field} {fuel : Nat} {cs : List Value} {x : DataW H × List MemPlace} (ht : P.underlying t = some (.struct fs)) (h : DataW.trod enc P W base (fun _ => true) held fuel t cs = some x) (hw : ∀ n ∈ x.1.weights P t, n ≤ reachBytes) :
    ∃ n', ∀ (j : Nat) (F : Field), fs[j]? = some F → ∃ y, DataW.trod enc P W base (fun _ => true) held n' F.type ((cs.drop F.offset).take (P.cellsOf F.type)) = some y ∧ ∀ n ∈ y.1.weights P F.type, n ≤ reachBytes := by
  obtain ⟨ys, n', _, hy, _, hyl, hf⟩ := DataW.trod_struct ht h
  refine ⟨n', fun j F hF => ?_⟩
  have hj : j < fs.size := (Array.getElem?_eq_some_iff.1 hF).1
  refine ⟨ys[j]'(by omega), by rw [hf j F hF]; exact List.getElem?_eq_getElem (by omega), fun z hz => hw z ?_⟩
  rw [hy]
  simp only [DataW.weights, ht]
  refine DataW.weights_mem_each (ts := fs.toList.map (·.type)) (j := j) (t := F.type) (d := (ys[j]'(by omega)).1) ?_ ?_ z hz
  · rw [List.getElem?_map, Array.getElem?_toList, hF]; rfl
  · rw [List.getElem?_map, List.getElem?_eq_getElem (by omega)]; rfl
/-- A message that comes in: its length is within its room. -/
structure Sc (w : World) (p : Nat → Prop) (v : Value) (M : List Int) : Prop where
  ex : ∃ (A : Option Addr) (c : Nat), v = .slice A M.length c ∧ Sq w p v M.length (CU M) ∧ M.length ≤ c ∧ (A = none → c = 0)
theorem sc_of {H : Type} {enc : TypeId × Value → H} {W : World} {base : Nat} {held : Bool} {fuel : Nat} {v : Value} {x : DataW H × List MemPlace} (h : DataW.trod enc Try.prog W base (fun _ => true) held fuel 33 [v] = some x) : ∃ M : List Int, Sc W (fun b => b < W.heap.size) v M := by
  rcases open_ints Try.underlying33 Try.underlying52 (by kernel_rfl) h with ⟨hcs, _⟩ | ⟨x, l, c, zs, hcs, _, hl, hm, hz, _, hcell, hwz⟩
  · injection hcs with hcs
    subst hcs
    exact ⟨[], none, 0, rfl, Sq.nil _ _, Nat.le_refl _, fun _ => rfl⟩
  · injection hcs with hcs
    subst hcs
    have hr : IsRow .u32 W (some x) l c zs := .inr ⟨_, rfl, hl, hm, by simpa using hz, hcell, hwz⟩
    have := hr.sq
    have hl2 : (zs.take l).length = l := by rw [List.length_take]; have := hr.le; omega
    exact ⟨zs.take l, some x, c, by rw [hl2], by rw [hl2]; exact this, by omega, fun h => by cases h⟩
theorem Sc.low {lo : Nat} {w w' : World} {v : Value} {M : List Int} (h : Sc w (fun b => b < lo) v M) (hb : Below lo w w') : Sc w' (fun b => b < lo) v M := by
  obtain ⟨A, c, e, s, r⟩ := h.ex
  exact ⟨A, c, e, sq_low s hb, r⟩
/-- A list of messages. -/
def RL (W : World) (M : List Int) (cs : List Value) : Prop := ∃ v, cs = [v] ∧ Sc W (fun b => b < W.heap.size) v M
theorem open_L {H : Type} {enc : TypeId × Value → H} {W : World} {base : Nat} {held : Bool} (n : Nat) (cs : List Value) (y : DataW H × List MemPlace) (hl : cs.length = 1) (h : DataW.trod enc Try.prog W base (fun _ => true) held n 33 cs = some y) (hw : ∀ n ∈ y.1.weights Try.prog 33, n ≤ reachBytes) : ∃ x : List Int, RL W x cs := by
  match cs, hl with
  | [v], _ =>
    obtain ⟨M, hM⟩ := sc_of h
    exact ⟨M, v, rfl, hM⟩
theorem Sc.sq {w : World} {p : Nat → Prop} {A : Option Addr} {m c : Nat} {M : List Int} (h : Sc w p (.slice A m c) M) : m = M.length ∧ Sq w p (.slice A M.length c) M.length (CU M) ∧ M.length ≤ c ∧ (A = none → c = 0) := by
  obtain ⟨A', c', e, s, h1, h2⟩ := h.ex
  injection e with e1 e2 e3
  subst e1 e2 e3
  exact ⟨rfl, s, h1, h2⟩
theorem Sc.form {w : World} {p : Nat → Prop} {v : Value} {M : List Int} (h : Sc w p v M) : ∃ A c, v = .slice A M.length c := by
  obtain ⟨A', c', e, _⟩ := h.ex
  exact ⟨A', c', e⟩
/-- The first words of a list. -/
theorem Sq_take {w : World} {p : Nat → Prop} {A : Option Addr} {n c j : Nat} {xs : List Value} (h : Sq w p (.slice A n c) n xs) (hj : j ≤ n) : Sq w p (.slice A j c) j (xs.take j) := by
  have hl := h.len
  refine ⟨A, c, rfl, by rw [List.length_take]; omega, fun h0 => ?_⟩
  obtain ⟨_, b, off, rfl, hb, hp, hc⟩ := h.at_ (show 0 < n by omega)
  refine ⟨b, off, rfl, hb, hp, fun i u hu => hc i u ?_⟩
  have hi : i < j := by
    by_cases hi : i < j
    · exact hi
    · rw [List.getElem?_eq_none (by rw [List.length_take]; omega)] at hu; cases hu
  rwa [List.getElem?_take_of_lt hi] at hu
theorem u64_tmod (a m : Int) (hm : 0 < m) : 0 ≤ (IntKind.u64.wrap a).tmod m ∧ (IntKind.u64.wrap a).tmod m < m := by
  have h : 0 ≤ IntKind.u64.wrap a := by rw [IntKind.wrap_u64]; exact Int.emod_nonneg _ (by decide)
  exact ⟨Int.tmod_nonneg _ h, Int.tmod_lt_of_pos _ hm⟩
end Go.Proofs.Ytejambofnffopaa.Q
