/-
  The example of the document; what comes in. Each statement bears its own conditions.
-/
import Derived.Test.YtmodkfboolmckaaSaE
namespace Go.Proofs.Ytmodkfboolmckaa.Sa
open Go.RowKit Go.Proofs.Ytmodkfboolmckaa.F Go.Proofs.Ytmodkfboolmckaa.U
open Go.ChangeShapes Go.WideShapes Go.ChangeAt
set_option linter.unusedVariables false
set_option linter.unusedSimpArgs false
set_option maxRecDepth 100000 in
set_option maxHeartbeats 4000000 in
theorem told_any (w : World) : Calls Try.prog 10 #[] w fun e w' => e = .returned (.bool true) ∧ Below w.heap.size w w' := by
  have he := he_sa
  obtain ⟨lo, hlo⟩ : ∃ lo, w.heap.size = lo := ⟨_, rfl⟩
  have NW := Lib.hid (new_any 2 5 w (by omega) (by omega) (by omega) (by omega))
  have HLO : Hid (lo ≤ w.heap.size ∧ w.heap.size ≤ lo) := by unfold Hid; omega
  rw [hlo] at NW ⊢
  clear hlo
  go_enter Try.func10, Try.ntmps10
  go_wp2_with fail
  refine NW.out.mono ?_
  rintro e w1 ⟨rfl, q1, b1⟩
  have Q1 := Lib.hid q1
  have B1 := Lib.hid b1
  clear q1 b1 NW
  have hx : Below w1.heap.size w1 (w1.alloc (.cells #[.int .u32 7, .int .u32 8] 55)) := (Below.refl _ _).alloc (Nat.le_refl _) _
  have S2 := Lib.hid (Sq.lit w1 #[.int .u32 7, .int .u32 8] 55 2 2 rfl)
  have Q2 := Lib.hid (Q1.out.below hx)
  have B2 : Hid (Below lo w (w1.alloc (.cells #[.int .u32 7, .int .u32 8] 55))) := B1.out.trans (hx.mono Q1.out.nil)
  clear hx
  go_wp2_with fail
  refine (write_any lo _ lo 2 5 false [] 0 _ _ [7, 8] 10 _ Q2.out ⟨by omega, by omega⟩ S2.out (by simp)).mono ?_
  rintro e w3 ⟨q, rfl, q3, n3⟩
  have Q3 := Lib.hid q3
  have B3 : Hid (Below lo w w3) := B2.out.trans (Q2.out.nx n3)
  clear q3 n3 S2 Q2 B2 Q1 B1
  go_wp2_with fail
  refine (read_any lo _ lo 2 5 true [7, 8] 10 15 _ Q3.out ⟨by omega, by omega⟩ rfl).mono ?_
  rintro e w4 ⟨r, he4, o4, b4⟩
  rw [show decide ((15 : Int) ≤ 10 + 5) = true from rfl] at he4
  subst he4
  obtain ⟨A4, c4, rfl⟩ := slice_form o4
  have O4 := Lib.hid (Ow.of_own o4)
  have Q4 := Lib.hid (Q3.out.below b4)
  have B4 : Hid (Below lo w w4) := B3.out.trans (b4.mono Q3.out.nil)
  clear o4 b4 Q3 B3
  go_wp2_with fail
  refine (read_any lo _ lo 2 5 true [7, 8] 10 16 _ Q4.out ⟨by omega, by omega⟩ rfl).mono ?_
  rintro e w5 ⟨r, he5, o5, b5⟩
  rw [show decide ((16 : Int) ≤ 10 + 5) = false from rfl] at he5
  subst he5
  obtain ⟨A5, c5, rfl⟩ := slice_form o5
  have O5 := Lib.hid (O4.out.below b5)
  have Q5 := Lib.hid (Q4.out.below b5)
  have B5 : Hid (Below lo w w5) := B4.out.trans (b5.mono Q4.out.nil)
  clear o5 b5 Q4 B4 O4
  have hx : Below w5.heap.size w5 (w5.alloc (.cells #[.int .u32 7, .int .u32 8] 55)) := (Below.refl _ _).alloc (Nat.le_refl _) _
  have L6 := Lib.hid (Sq.lit w5 #[.int .u32 7, .int .u32 8] 55 2 2 rfl)
  have O6 := Lib.hid (O5.out.below hx)
  have Q6 := Lib.hid (Q5.out.below hx)
  have B6 : Hid (Below lo w (w5.alloc (.cells #[.int .u32 7, .int .u32 8] 55))) := B5.out.trans (hx.mono Q5.out.nil)
  clear hx B5 O5 Q5
  go_wp2_with fail
  refine (rwords_any _ _ _ _ [7, 8] [7, 8] _ O6.out.sq.st L6.out.st (by simp)).mono ?_
  rintro e w7 ⟨he7, b7⟩
  rw [decide_eq_true rfl] at he7
  subst he7
  have Q7 := Lib.hid (Q6.out.below b7)
  have B7 : Hid (Below lo w w7) := B6.out.trans (b7.mono Q6.out.nil)
  clear b7 Q6 B6 O6 L6
  have hx : Below w7.heap.size w7 (w7.alloc (.cells #[.int .u32 1, .int .u32 2, .int .u32 3] 55)) := (Below.refl _ _).alloc (Nat.le_refl _) _
  have L8 := Lib.hid (Sq.lit w7 #[.int .u32 1, .int .u32 2, .int .u32 3] 55 3 3 rfl)
  have Q8 := Lib.hid (Q7.out.below hx)
  have B8 : Hid (Below lo w (w7.alloc (.cells #[.int .u32 1, .int .u32 2, .int .u32 3] 55))) := B7.out.trans (hx.mono Q7.out.nil)
  clear hx B7 Q7
  go_wp2_with fail
  refine (write_big lo _ lo 2 5 true [7, 8] 10 _ _ [1, 2, 3] 11 _ Q8.out ⟨by omega, by omega⟩ L8.out (by simp)).mono ?_
  rintro e w9 ⟨rfl, rfl⟩
  go_wp2_with fail
  go_ret
  exact ⟨rfl, B8.out⟩
def IsRow (k : IntKind) (w : World) (a : Option Addr) (len cap : Nat) (zs : List Int) : Prop :=
  (a = none ∧ len = 0 ∧ cap = 0 ∧ zs = []) ∨
  ∃ x, a = some x ∧ len ≤ cap ∧ cap ≤ maxLen ∧ zs.length = cap ∧ (∀ i, i < zs.length → w.cell? (x.add i) = some (.int k (zs.getD i 0))) ∧ ∀ n ∈ zs, (Lit.int k n).wf = true
theorem IsRow.le {k : IntKind} {w : World} {a : Option Addr} {len cap : Nat} {zs : List Int} (h : IsRow k w a len cap zs) : len ≤ cap ∧ len ≤ zs.length := by
  rcases h with ⟨_, rfl, rfl, rfl⟩ | ⟨x, _, h1, _, h2, _⟩
  · simp
  · omega
theorem row_at {k : IntKind} {w : World} {a : Option Addr} {len cap : Nat} {zs : List Int} (h : IsRow k w a len cap zs) (hn : 0 < len) : ∃ b off, a = some ⟨b, off, none⟩ ∧ b < w.heap.size ∧ ∀ i, i < len → w.cell? ⟨b, off + i, none⟩ = some (.int k (zs.getD i 0)) ∧ (Lit.int k (zs.getD i 0)).wf = true := by
  rcases h with ⟨rfl, rfl, rfl, rfl⟩ | ⟨⟨b, off, spot⟩, rfl, h1, h2, h3, h4, h5⟩
  · omega
  · have e0 := h4 0 (by omega)
    have hs : spot = none := by simpa [Addr.add] using World.cell?_spot e0
    subst hs
    refine ⟨b, off, rfl, ?_, fun i hi => ⟨?_, ?_⟩⟩
    · have := World.block_lt_of_cell? _ _ e0
      simpa [block_of_add] using this
    · have := h4 i (by omega)
      rwa [Addr.add_lit] at this
    · apply h5
      rw [List.getD_eq_getElem?_getD, List.getElem?_eq_getElem (by omega)]
      exact List.getElem_mem _
/-- An argument is a list that is read. -/
theorem IsRow.sq {k : IntKind} {w : World} {a : Option Addr} {len cap : Nat} {zs : List Int} (h : IsRow k w a len cap zs) : Sq w (fun b => b < w.heap.size) (.slice a len cap) len ((zs.take len).map (Value.int k)) := by
  have hl := h.le
  refine ⟨a, cap, rfl, by rw [List.length_map, List.length_take]; omega, fun h0 => ?_⟩
  obtain ⟨b, off, rfl, hb, hc⟩ := row_at h h0
  refine ⟨b, off, rfl, hb, hb, fun j u hu => ?_⟩
  rw [List.getElem?_map] at hu
  have hj : j < len := by
    by_cases hj : j < len
    · exact hj
    · rw [List.getElem?_eq_none (by rw [List.length_take]; omega)] at hu; cases hu
  rw [(hc j hj).1]
  rw [List.getElem?_take_of_lt hj, List.getElem?_eq_getElem (by omega)] at hu
  simp only [Option.map_some, Option.some.injEq] at hu
  rw [← hu, List.getD_eq_getElem?_getD, List.getElem?_eq_getElem (by omega)]
  rfl
theorem cell_low {lo : Nat} {w w' : World} {b o : Nat} {u : Value} (h : Below lo w w') (hb : b < lo) (hc : w.cell? ⟨b, o, none⟩ = some u) : w'.cell? ⟨b, o, none⟩ = some u := (h.cell (by exact hb)).trans hc
theorem sq_low {lo : Nat} {w w' : World} {v : Value} {n : Nat} {xs : List Value} (h : Sq w (fun b => b < lo) v n xs) (hb : Below lo w w') : Sq w' (fun b => b < lo) v n xs := (h.keep hb.size fun b _ hp => hb.block b hp).imp fun b _ hb => hb.2
theorem evfield_of {H : Type} {enc : TypeId × Value → H} {P : Program} {W : World} {base : Nat} {held : Bool} {t : TypeId} {fs : Array Field} {fuel : Nat} {cs : List Value} {x : DataW H × List MemPlace} (ht : P.underlying t = some (.struct fs)) (h : DataW.trod enc P W base (fun _ => true) held fuel t cs = some x) (hw : ∀ n ∈ x.1.weights P t, n ≤ reachBytes) :
    ∃ n', ∀ (j : Nat) (F : Field), fs[j]? = some F → ∃ y, DataW.trod enc P W base (fun _ => true) held n' F.type ((cs.drop F.offset).take (P.cellsOf F.type)) = some y ∧ ∀ n ∈ y.1.weights P F.type, n ≤ reachBytes := by
  obtain ⟨ys, n', _, hy, _, hyl, hf⟩ := DataW.trod_struct ht h
  refine ⟨n', fun j F hF => ?_⟩
  have hj : j < fs.size := (Array.getElem?_eq_some_iff.1 hF).1
  refine ⟨ys[j]'(by omega), by rw [hf j F hF]; exact List.getElem?_eq_getElem (by omega), fun z hz => hw z ?_⟩
  rw [hy]
  simp only [DataW.weights, ht]
  refine DataW.weights_mem_each (ts := fs.toList.map (·.type)) (j := j) (t := F.type) (d := (ys[j]'(by omega)).1) ?_ ?_ z hz
  · rw [List.getElem?_map, Array.getElem?_toList, hF]; rfl
  · rw [List.getElem?_map, List.getElem?_eq_getElem (by omega)]; rfl
/-- A message that comes in: its length is within its room. -/
structure Sc (w : World) (p : Nat → Prop) (v : Value) (M : List Int) : Prop where
  ex : ∃ (A : Option Addr) (c : Nat), v = .slice A M.length c ∧ Sq w p v M.length (CU M) ∧ M.length ≤ c ∧ (A = none → c = 0)
theorem sc_of {H : Type} {enc : TypeId × Value → H} {W : World} {base : Nat} {held : Bool} {fuel : Nat} {v : Value} {x : DataW H × List MemPlace} (h : DataW.trod enc Try.prog W base (fun _ => true) held fuel 24 [v] = some x) : ∃ M : List Int, Sc W (fun b => b < W.heap.size) v M := by
  rcases open_ints Try.underlying24 Try.underlying55 (by kernel_rfl) h with ⟨hcs, _⟩ | ⟨x, l, c, zs, hcs, _, hl, hm, hz, _, hcell, hwz⟩
  · injection hcs with hcs
    subst hcs
    exact ⟨[], none, 0, rfl, Sq.nil _ _, Nat.le_refl _, fun _ => rfl⟩
  · injection hcs with hcs
    subst hcs
    have hr : IsRow .u32 W (some x) l c zs := .inr ⟨_, rfl, hl, hm, by simpa using hz, hcell, hwz⟩
    have := hr.sq
    have hl2 : (zs.take l).length = l := by rw [List.length_take]; have := hr.le; omega
    exact ⟨zs.take l, some x, c, by rw [hl2], by rw [hl2]; exact this, by omega, fun h => by cases h⟩
theorem Sc.low {lo : Nat} {w w' : World} {v : Value} {M : List Int} (h : Sc w (fun b => b < lo) v M) (hb : Below lo w w') : Sc w' (fun b => b < lo) v M := by
  obtain ⟨A, c, e, s, r⟩ := h.ex
  exact ⟨A, c, e, sq_low s hb, r⟩
/-- A list of messages. -/
def RL (W : World) (M : List Int) (cs : List Value) : Prop := ∃ v, cs = [v] ∧ Sc W (fun b => b < W.heap.size) v M
theorem open_L {H : Type} {enc : TypeId × Value → H} {W : World} {base : Nat} {held : Bool} (n : Nat) (cs : List Value) (y : DataW H × List MemPlace) (hl : cs.length = 1) (h : DataW.trod enc Try.prog W base (fun _ => true) held n 24 cs = some y) (hw : ∀ n ∈ y.1.weights Try.prog 24, n ≤ reachBytes) : ∃ x : List Int, RL W x cs := by
  match cs, hl with
  | [v], _ =>
    obtain ⟨M, hM⟩ := sc_of h
    exact ⟨M, v, rfl, hM⟩
theorem evlen3 {cs : List Value} (h : cs.length = 3) : ∃ u0 u1 u2 : Value, cs = [u0, u1, u2] := by
  match cs, h with
  | [u0, u1, u2], _ => exact ⟨_, _, _, rfl⟩
/-- Something that is done. -/
structure AC where
  kd : Int
  now : Int
  m : List Int
def RA (W : World) (x : AC) (cs : List Value) : Prop := ∃ v, cs = [.int .i64 x.kd, .int .i64 x.now, v] ∧ Sc W (fun b => b < W.heap.size) v x.m
set_option maxHeartbeats 2000000 in
theorem open_A {H : Type} {enc : TypeId × Value → H} {W : World} {base : Nat} {held : Bool} (n : Nat) (cs : List Value) (y : DataW H × List MemPlace) (hl : cs.length = 3) (h : DataW.trod enc Try.prog W base (fun _ => true) held n 33 cs = some y) (hw : ∀ n ∈ y.1.weights Try.prog 33, n ≤ reachBytes) : ∃ x : AC, RA W x cs := by
  obtain ⟨n', hf⟩ := evfield_of Try.underlying33 h hw
  obtain ⟨u0, u1, u2, rfl⟩ := evlen3 hl
  obtain ⟨w0, g0, k0⟩ := hf 0 _ rfl
  replace g0 : DataW.trod enc Try.prog W base (fun _ => true) held n' 3 [u0] = some w0 := by simpa [show Try.prog.cellsOf 3 = 1 by kernel_rfl] using g0
  obtain ⟨z0, e0, _, f0⟩ := DataW.trod_int Try.underlying3 g0
  injection e0 with e0
  subst e0
  obtain ⟨w1, g1, k1⟩ := hf 1 _ rfl
  replace g1 : DataW.trod enc Try.prog W base (fun _ => true) held n' 3 [u1] = some w1 := by simpa [show Try.prog.cellsOf 3 = 1 by kernel_rfl] using g1
  obtain ⟨z1, e1, _, f1⟩ := DataW.trod_int Try.underlying3 g1
  injection e1 with e1
  subst e1
  obtain ⟨w2, g2, k2⟩ := hf 2 _ rfl
  replace g2 : DataW.trod enc Try.prog W base (fun _ => true) held n' 24 [u2] = some w2 := by simpa [show Try.prog.cellsOf 24 = 1 by kernel_rfl] using g2
  obtain ⟨M, hM⟩ := sc_of g2
  exact ⟨⟨z0, z1, M⟩, u2, rfl, hM⟩
/-- A port, and the document's in the block bw. -/
structure PS (lo bw : Nat) (w : World) (p : Nat → Prop) (g : Nat) (n k : Int) (has : Bool) (M : List Int) (st : Int) (Am : Option Addr) (cm : Nat) : Prop where
  pv : PV lo w p g n k has M st
  bx : w.heap[bw]? = some (.cells #[.int .i64 n, .int .i64 k, .bool has, .slice Am M.length cm, .int .i64 st] 26 (0, 0))
  ms : Sq w (fun b => ¬ p b) (.slice Am M.length cm) M.length (CU M)
  nq : ¬ p bw ∧ lo ≤ bw
section
variable {lo bw : Nat} {w w' : World} {p q r : Nat → Prop} {g : Nat} {n k : Int} {has : Bool} {M : List Int} {st : Int} {Am : Option Addr} {cm : Nat}
theorem PS.blt (h : PS lo bw w p g n k has M st Am cm) : bw < w.heap.size := (Array.getElem?_eq_some_iff.1 h.bx).1
theorem PS.below (h : PS lo bw w p g n k has M st Am cm) (hb : Below w.heap.size w w') : PS lo bw w' p g n k has M st Am cm := ⟨h.pv.below hb, (hb.block bw h.blt).trans h.bx, h.ms.belowP hb, h.nq⟩
theorem u_ne_box {v : Value} {m : Nat} {xs : List Value} {c : Array Value} (h : Sq w p v m xs) (hx : w.heap[bw]? = some (.cells c 26 (0, 0))) (hu : ∀ (j : Nat) (u : Value), xs[j]? = some u → ∃ z : Int, u = Value.int .u32 z) (hc : ∀ (j : Nat) (z : Int), c[j]? ≠ some (Value.int .u32 z)) (hm : 0 < m) : Sq w (fun b => p b ∧ b ≠ bw) v m xs := by
  obtain ⟨A, c', e, hl, h1⟩ := h.ex
  refine ⟨A, c', e, hl, fun h0 => ?_⟩
  obtain ⟨b, off, e1, hb, hp, hcl⟩ := h1 h0
  refine ⟨b, off, e1, hb, ⟨hp, ?_⟩, hcl⟩
  rintro rfl
  obtain ⟨u0, hu0⟩ : ∃ u0, xs[0]? = some u0 := ⟨_, List.getElem?_eq_getElem (l := xs) (i := 0) (by omega)⟩
  have hx0 := hcl 0 u0 hu0
  obtain ⟨z, hz⟩ := hu 0 u0 hu0
  rw [(row_cell hx _).1, hz] at hx0
  exact hc _ _ hx0
theorem box_no (a b : Int) (c : Bool) (A : Option Addr) (l m : Nat) (d : Int) (j : Nat) (z : Int) : (#[Value.int .i64 a, .int .i64 b, .bool c, .slice A l m, .int .i64 d] : Array Value)[j]? ≠ some (.int .u32 z) := by
  match j with
  | 0 => simp
  | 1 => simp
  | 2 => simp
  | 3 => simp
  | 4 => simp
  | j + 5 => simp
theorem CU_is {L : List Int} : ∀ (j : Nat) (u : Value), (CU L)[j]? = some u → ∃ z : Int, u = Value.int .u32 z := by
  intro j u hu
  unfold CU at hu
  rw [List.getElem?_map] at hu
  cases h : L[j]? with
  | none => rw [h] at hu; cases hu
  | some z => rw [h] at hu; injection hu with hu; exact ⟨z, hu.symm⟩
/-- The message of the document's isn't in the box. -/
theorem PS.msb (h : PS lo bw w p g n k has M st Am cm) : Sq w (fun b => ¬ p b ∧ b ≠ bw) (.slice Am M.length cm) M.length (CU M) := by
  by_cases h0 : 0 < M.length
  · exact u_ne_box h.ms h.bx CU_is (box_no _ _ _ _ _ _ _) h0
  · obtain ⟨A, c, e, hl, h1⟩ := h.ms.ex
    exact ⟨A, c, e, hl, fun h2 => absurd h2 h0⟩
end
/-- Behind an act, once the document's answer is laid into the box. -/
theorem PS.put {lo bw : Nat} {w : World} {q : Nat → Prop} {g : Nat} {n k : Int} {has : Bool} {M : List Int} {st : Int} {Am : Option Addr} {cm : Nat} {c0 c1 c2 c3 c4 : Value} (h : PV lo w q g n k has M st)
    (hx : w.heap[bw]? = some (.cells #[c0, c1, c2, c3, c4] 26 (0, 0))) (hc : ∀ (j : Nat) (z : Int), (#[c0, c1, c2, c3, c4] : Array Value)[j]? ≠ some (Value.int .u32 z)) (ms : Sq w (fun b => ¬ q b) (.slice Am M.length cm) M.length (CU M)) (nq : ¬ q bw ∧ lo ≤ bw) :
    PS lo bw (((((w.setCell ⟨bw, 0, none⟩ (.int .i64 n)).setCell ⟨bw, 1, none⟩ (.int .i64 k)).setCell ⟨bw, 2, none⟩ (.bool has)).setCell ⟨bw, 3, none⟩ (.slice Am M.length cm)).setCell ⟨bw, 4, none⟩ (.int .i64 st)) q g n k has M st Am cm ∧
    Below lo w (((((w.setCell ⟨bw, 0, none⟩ (.int .i64 n)).setCell ⟨bw, 1, none⟩ (.int .i64 k)).setCell ⟨bw, 2, none⟩ (.bool has)).setCell ⟨bw, 3, none⟩ (.slice Am M.length cm)).setCell ⟨bw, 4, none⟩ (.int .i64 st)) ∧
    Fo (fun b => b = bw) w (((((w.setCell ⟨bw, 0, none⟩ (.int .i64 n)).setCell ⟨bw, 1, none⟩ (.int .i64 k)).setCell ⟨bw, 2, none⟩ (.bool has)).setCell ⟨bw, 3, none⟩ (.slice Am M.length cm)).setCell ⟨bw, 4, none⟩ (.int .i64 st)) := by
  have hf : Fo (fun b => b = bw) w (((((w.setCell ⟨bw, 0, none⟩ (.int .i64 n)).setCell ⟨bw, 1, none⟩ (.int .i64 k)).setCell ⟨bw, 2, none⟩ (.bool has)).setCell ⟨bw, 3, none⟩ (.slice Am M.length cm)).setCell ⟨bw, 4, none⟩ (.int .i64 st)) :=
    (((((Fo.refl (fun b => b = bw) w).setCell (.inl rfl) 0 _).setCell (.inl rfl) 1 _).setCell (.inl rfl) 2 _).setCell (.inl rfl) 3 _).setCell (.inl rfl) 4 _
  have hs := set_at (set_at (set_at (set_at (set_at hx 0 (.int .i64 n)) 1 (.int .i64 k)) 2 (.bool has)) 3 (.slice Am M.length cm)) 4 (.int .i64 st)
  have hm : Sq w (fun b => ¬ q b ∧ b ≠ bw) (.slice Am M.length cm) M.length (CU M) := by
    by_cases h0 : 0 < M.length
    · exact u_ne_box ms hx CU_is hc h0
    · obtain ⟨A, c, e, hl, h1⟩ := ms.ex
      exact ⟨A, c, e, hl, fun h2 => absurd h2 h0⟩
  refine ⟨⟨h.fo hf (fun b hb e => nq.1 (by rw [← e]; exact hb)), hs, ?_, nq⟩, hf.below (fun b hb => by rw [hb]; exact nq.2) (by have := h.nil; omega), hf⟩
  exact (hm.fo hf fun b hb => hb.2).imp fun b _ hb => hb.2.1
end Go.Proofs.Ytmodkfboolmckaa.Sa
