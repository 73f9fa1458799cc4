/-
  A Sender and the document's in a box; what comes in. Each statement bears its own conditions.
-/
import Derived.Test.YtkbjonblflhkoaaLnO
namespace Go.Proofs.Ytkbjonblflhkoaa.Ln
open Go.RowKit Go.Proofs.Ytkbjonblflhkoaa.F Go.Proofs.Ytkbjonblflhkoaa.U Go.Proofs.Ytkbjonblflhkoaa.Q
open Go.ChangeShapes Go.WideShapes Go.ChangeAt
set_option linter.unusedVariables false
set_option linter.unusedSimpArgs false
structure PL (lo lo2 Rb : Nat) (w0 w : World) (p : Nat → Prop) (g : Nat) (s : SS) (LL : List (List Int)) (sb : SS) (Ar : Option Addr) (nr cr : Nat) : Prop where
  sv : SV lo2 w p (fun _ => True) g s LL
  bx : w.heap[Rb]? = some (.cells #[.int .i64 sb.gap, .int .i64 sb.words, .int .i64 sb.room, .slice Ar nr cr, .int .i64 sb.next, .int .i64 sb.rl] 27 (0, 0))
  np : ¬ p Rb
  ll : lo ≤ Rb ∧ lo ≤ lo2
  be : Below lo w0 w
structure RF (E : Nat → Prop) (w : World) (p : Nat → Prop) (A : Option Addr) (n c : Nat) (S : List Sl) (LL : List (List Int)) : Prop where
  rl : Sq w (fun b => ¬ p b ∧ ¬ E b) (.slice A n c) n (CS S)
  rm : Ms w (fun _ => True) S LL
  cp : n ≤ c
section
variable {lo lo2 Rb : Nat} {w0 w w' : World} {p q : Nat → Prop} {g : Nat} {s s' sb sc : SS} {LL LL' : List (List Int)} {Ar A : Option Addr} {nr cr n c : Nat} {S : List Sl}
theorem PL.blt (h : PL lo lo2 Rb w0 w p g s LL sb Ar nr cr) : Rb < w.heap.size := (Array.getElem?_eq_some_iff.1 h.bx).1
theorem PL.nil (h : PL lo lo2 Rb w0 w p g s LL sb Ar nr cr) : lo ≤ w.heap.size := by have := h.sv.nil; have := h.ll; omega
theorem PL.below (h : PL lo lo2 Rb w0 w p g s LL sb Ar nr cr) (hb : Below w.heap.size w w') : PL lo lo2 Rb w0 w' p g s LL sb Ar nr cr := ⟨h.sv.below hb, (hb.block _ h.blt).trans h.bx, h.np, h.ll, h.be.trans (hb.mono h.nil)⟩
theorem PL.op (h : PL lo lo2 Rb w0 w p g s LL sb Ar nr cr) (hs : SV lo2 w' q (fun _ => True) g s' LL') (hn : Nx p q w w') : PL lo lo2 Rb w0 w' q g s' LL' sb Ar nr cr :=
  ⟨hs, (hn.fo.block _ h.blt h.np).trans h.bx, fun hx => by rcases hn.sub _ hx with h1 | h1; exact h.np h1; have := h.blt; omega, h.ll, h.be.trans ((h.sv.nx hn).mono h.ll.2)⟩
theorem PL.ty (h : PL lo lo2 Rb w0 w p g s LL sb Ar nr cr) : Ty w (fun b => b = Rb) := fun b hb _ => by subst hb; exact ⟨_, _, _, h.bx, by decide⟩
theorem PL.box (h : PL lo lo2 Rb w0 w p g s LL sb Ar nr cr) (hf : Fo (fun b => b = Rb) w w') (hx : w'.heap[Rb]? = some (.cells #[.int .i64 sc.gap, .int .i64 sc.words, .int .i64 sc.room, .slice A n c, .int .i64 sc.next, .int .i64 sc.rl] 27 (0, 0))) : PL lo lo2 Rb w0 w' p g s LL sc A n c :=
  ⟨h.sv.fot hf (fun b hb e => h.np (by rw [← e]; exact hb)) h.ty, hx, h.np, h.ll, h.be.trans (hf.below (fun b hb => by rw [hb]; exact h.ll.1) h.nil)⟩
theorem PL.far {x : Nat → Prop} (h : PL lo lo2 Rb w0 w p g s LL sb Ar nr cr) (hf : Fo x w w') (hx : ∀ b, x b → ¬ p b ∧ b ≠ Rb ∧ lo ≤ b) (ht : Ty w x) : PL lo lo2 Rb w0 w' p g s LL sb Ar nr cr :=
  ⟨h.sv.fot hf (fun b hb e => (hx b e).1 hb) ht, (hf.block _ h.blt (fun e => (hx _ e).2.1 rfl)).trans h.bx, h.np, h.ll, h.be.trans (hf.below (fun b hb => (hx b hb).2.2) h.nil)⟩
variable {E E' : Nat → Prop}
theorem RF.below (h : RF E w p A n c S LL) (hb : Below w.heap.size w w') : RF E w' p A n c S LL := ⟨h.rl.belowP hb, h.rm.below hb, h.cp⟩
theorem RF.add (h : RF E w p A n c S LL) (hb : Below w.heap.size w w') : RF (fun b => E b ∨ w.heap.size ≤ b) w' p A n c S LL := ⟨(h.rl.below hb).imp fun b _ hb => ⟨hb.2.1, fun e => by rcases e with e | e; exact hb.2.2 e; omega⟩, h.rm.below hb, h.cp⟩
theorem RF.imp (h : RF E w p A n c S LL) (hi : ∀ b, E' b → E b) : RF E' w p A n c S LL := ⟨h.rl.imp fun b _ hb => ⟨hb.1, fun e => hb.2 (hi b e)⟩, h.rm, h.cp⟩
theorem RF.far {x : Nat → Prop} (h : RF E w p A n c S LL) (hf : Fo x w w') (hx : ∀ b, x b → E b) (ht : Ty w x) : RF E w' p A n c S LL := ⟨(h.rl.fo hf fun b hb e => hb.2 (hx b e)).imp fun b _ hb => hb.2, h.rm.fot hf ht, h.cp⟩
theorem RF.of_send (hE : ∀ b, E b → b < w.heap.size) (h : Sq w' (fun b => ((b < w.heap.size ∧ (¬ p b ∧ ¬ E b)) ∨ w.heap.size ≤ b) ∧ ¬ q b) (.slice A n c) n (CS S)) (hm : Ms w' (fun _ => True) S LL) (hc : n ≤ c) : RF E w' q A n c S LL :=
  ⟨h.imp fun b _ hb => ⟨hb.2, fun e => by rcases hb.1 with h1 | h1; exact h1.2.2 e; have := hE b e; omega⟩, hm, hc⟩
end
def IsRow (k : IntKind) (w : World) (a : Option Addr) (len cap : Nat) (zs : List Int) : Prop :=
  (a = none ∧ len = 0 ∧ cap = 0 ∧ zs = []) ∨
  ∃ x, a = some x ∧ len ≤ cap ∧ cap ≤ maxLen ∧ zs.length = cap ∧ (∀ i, i < zs.length → w.cell? (x.add i) = some (.int k (zs.getD i 0))) ∧ ∀ n ∈ zs, (Lit.int k n).wf = true
theorem IsRow.le {k : IntKind} {w : World} {a : Option Addr} {len cap : Nat} {zs : List Int} (h : IsRow k w a len cap zs) : len ≤ cap ∧ len ≤ zs.length := by
  rcases h with ⟨_, rfl, rfl, rfl⟩ | ⟨x, _, h1, _, h2, _⟩
  · simp
  · omega
theorem row_at {k : IntKind} {w : World} {a : Option Addr} {len cap : Nat} {zs : List Int} (h : IsRow k w a len cap zs) (hn : 0 < len) : ∃ b off, a = some ⟨b, off, none⟩ ∧ b < w.heap.size ∧ ∀ i, i < len → w.cell? ⟨b, off + i, none⟩ = some (.int k (zs.getD i 0)) ∧ (Lit.int k (zs.getD i 0)).wf = true := by
  rcases h with ⟨rfl, rfl, rfl, rfl⟩ | ⟨⟨b, off, spot⟩, rfl, h1, h2, h3, h4, h5⟩
  · omega
  · have e0 := h4 0 (by omega)
    have hs : spot = none := by simpa [Addr.add] using World.cell?_spot e0
    subst hs
    refine ⟨b, off, rfl, ?_, fun i hi => ⟨?_, ?_⟩⟩
    · have := World.block_lt_of_cell? _ _ e0
      simpa [block_of_add] using this
    · have := h4 i (by omega)
      rwa [Addr.add_lit] at this
    · apply h5
      rw [List.getD_eq_getElem?_getD, List.getElem?_eq_getElem (by omega)]
      exact List.getElem_mem _
/-- An argument is a list that is read. -/
theorem IsRow.sq {k : IntKind} {w : World} {a : Option Addr} {len cap : Nat} {zs : List Int} (h : IsRow k w a len cap zs) : Sq w (fun b => b < w.heap.size) (.slice a len cap) len ((zs.take len).map (Value.int k)) := by
  have hl := h.le
  refine ⟨a, cap, rfl, by rw [List.length_map, List.length_take]; omega, fun h0 => ?_⟩
  obtain ⟨b, off, rfl, hb, hc⟩ := row_at h h0
  refine ⟨b, off, rfl, hb, hb, fun j u hu => ?_⟩
  rw [List.getElem?_map] at hu
  have hj : j < len := by
    by_cases hj : j < len
    · exact hj
    · rw [List.getElem?_eq_none (by rw [List.length_take]; omega)] at hu; cases hu
  rw [(hc j hj).1]
  rw [List.getElem?_take_of_lt hj, List.getElem?_eq_getElem (by omega)] at hu
  simp only [Option.map_some, Option.some.injEq] at hu
  rw [← hu, List.getD_eq_getElem?_getD, List.getElem?_eq_getElem (by omega)]
  rfl
theorem cell_low {lo : Nat} {w w' : World} {b o : Nat} {u : Value} (h : Below lo w w') (hb : b < lo) (hc : w.cell? ⟨b, o, none⟩ = some u) : w'.cell? ⟨b, o, none⟩ = some u := (h.cell (by exact hb)).trans hc
theorem sq_low {lo : Nat} {w w' : World} {v : Value} {n : Nat} {xs : List Value} (h : Sq w (fun b => b < lo) v n xs) (hb : Below lo w w') : Sq w' (fun b => b < lo) v n xs := (h.keep hb.size fun b _ hp => hb.block b hp).imp fun b _ hb => hb.2
theorem evfield_of {H : Type} {enc : TypeId × Value → H} {P : Program} {W : World} {base : Nat} {held : Bool} {t : TypeId} {fs : Array Field} {fuel : Nat} {cs : List Value} {x : DataW H × List MemPlace} (ht : P.underlying t = some (.struct fs)) (h : DataW.trod enc P W base (fun _ => true) held fuel t cs = some x) (hw : ∀ n ∈ x.1.weights P t, n ≤ reachBytes) :
    ∃ n', ∀ (j : Nat) (F : Field), fs[j]? = some F → ∃ y, DataW.trod enc P W base (fun _ => true) held n' F.type ((cs.drop F.offset).take (P.cellsOf F.type)) = some y ∧ ∀ n ∈ y.1.weights P F.type, n ≤ reachBytes := by
  obtain ⟨ys, n', _, hy, _, hyl, hf⟩ := DataW.trod_struct ht h
  refine ⟨n', fun j F hF => ?_⟩
  have hj : j < fs.size := (Array.getElem?_eq_some_iff.1 hF).1
  refine ⟨ys[j]'(by omega), by rw [hf j F hF]; exact List.getElem?_eq_getElem (by omega), fun z hz => hw z ?_⟩
  rw [hy]
  simp only [DataW.weights, ht]
  refine DataW.weights_mem_each (ts := fs.toList.map (·.type)) (j := j) (t := F.type) (d := (ys[j]'(by omega)).1) ?_ ?_ z hz
  · rw [List.getElem?_map, Array.getElem?_toList, hF]; rfl
  · rw [List.getElem?_map, List.getElem?_eq_getElem (by omega)]; rfl
/-- A message that comes in: its length is within its room. -/
structure Sc (w : World) (p : Nat → Prop) (v : Value) (M : List Int) : Prop where
  ex : ∃ (A : Option Addr) (c : Nat), v = .slice A M.length c ∧ Sq w p v M.length (CU M) ∧ M.length ≤ c ∧ (A = none → c = 0)
theorem sc_of {H : Type} {enc : TypeId × Value → H} {W : World} {base : Nat} {held : Bool} {fuel : Nat} {v : Value} {x : DataW H × List MemPlace} (h : DataW.trod enc Try.prog W base (fun _ => true) held fuel 33 [v] = some x) : ∃ M : List Int, Sc W (fun b => b < W.heap.size) v M := by
  rcases open_ints Try.underlying33 Try.underlying47 (by kernel_rfl) h with ⟨hcs, _⟩ | ⟨x, l, c, zs, hcs, _, hl, hm, hz, _, hcell, hwz⟩
  · injection hcs with hcs
    subst hcs
    exact ⟨[], none, 0, rfl, Sq.nil _ _, Nat.le_refl _, fun _ => rfl⟩
  · injection hcs with hcs
    subst hcs
    have hr : IsRow .u32 W (some x) l c zs := .inr ⟨_, rfl, hl, hm, by simpa using hz, hcell, hwz⟩
    have := hr.sq
    have hl2 : (zs.take l).length = l := by rw [List.length_take]; have := hr.le; omega
    exact ⟨zs.take l, some x, c, by rw [hl2], by rw [hl2]; exact this, by omega, fun h => by cases h⟩
theorem Sc.low {lo : Nat} {w w' : World} {v : Value} {M : List Int} (h : Sc w (fun b => b < lo) v M) (hb : Below lo w w') : Sc w' (fun b => b < lo) v M := by
  obtain ⟨A, c, e, s, r⟩ := h.ex
  exact ⟨A, c, e, sq_low s hb, r⟩
theorem Sc.sq {w : World} {p : Nat → Prop} {A : Option Addr} {m c : Nat} {M : List Int} (h : Sc w p (.slice A m c) M) : m = M.length ∧ Sq w p (.slice A M.length c) M.length (CU M) ∧ M.length ≤ c ∧ (A = none → c = 0) := by
  obtain ⟨A', c', e, s, h1, h2⟩ := h.ex
  injection e with e1 e2 e3
  subst e1 e2 e3
  exact ⟨rfl, s, h1, h2⟩
theorem Sc.form {w : World} {p : Nat → Prop} {v : Value} {M : List Int} (h : Sc w p v M) : ∃ A c, v = .slice A M.length c := by
  obtain ⟨A', c', e, _⟩ := h.ex
  exact ⟨A', c', e⟩
theorem evlen3 {cs : List Value} (h : cs.length = 3) : ∃ u0 u1 u2 : Value, cs = [u0, u1, u2] := by
  match cs, h with
  | [u0, u1, u2], _ => exact ⟨_, _, _, rfl⟩
theorem array3' {xs : Array Value} (h : xs.size = 3) : ∃ x0 x1 x2, xs = #[x0, x1, x2] := by
  obtain ⟨l⟩ := xs
  match l, h with
  | [x0, x1, x2], _ => exact ⟨x0, x1, x2, rfl⟩
/-- Something that is done: two numbers and a message. -/
structure OC where
  kd : Int
  nw : Int
  m : List Int
def RO (W : World) (x : OC) (cs : List Value) : Prop := ∃ v, cs = [.int .i64 x.kd, .int .i64 x.nw, v] ∧ Sc W (fun b => b < W.heap.size) v x.m
set_option maxHeartbeats 2000000 in
theorem open_O {H : Type} {enc : TypeId × Value → H} {W : World} {base : Nat} {held : Bool} (n : Nat) (cs : List Value) (y : DataW H × List MemPlace) (hl : cs.length = 3) (h : DataW.trod enc Try.prog W base (fun _ => true) held n 35 cs = some y) (hw : ∀ n ∈ y.1.weights Try.prog 35, n ≤ reachBytes) : ∃ x : OC, RO W x cs := by
  obtain ⟨n', hf⟩ := evfield_of Try.underlying35 h hw
  obtain ⟨u0, u1, u2, rfl⟩ := evlen3 hl
  obtain ⟨w0, g0, k0⟩ := hf 0 _ rfl
  replace g0 : DataW.trod enc Try.prog W base (fun _ => true) held n' 3 [u0] = some w0 := by simpa [show Try.prog.cellsOf 3 = 1 by kernel_rfl] using g0
  obtain ⟨z0, e0, _, f0⟩ := DataW.trod_int Try.underlying3 g0
  injection e0 with e0
  subst e0
  obtain ⟨w1, g1, k1⟩ := hf 1 _ rfl
  replace g1 : DataW.trod enc Try.prog W base (fun _ => true) held n' 3 [u1] = some w1 := by simpa [show Try.prog.cellsOf 3 = 1 by kernel_rfl] using g1
  obtain ⟨z1, e1, _, f1⟩ := DataW.trod_int Try.underlying3 g1
  injection e1 with e1
  subst e1
  obtain ⟨w2, g2, k2⟩ := hf 2 _ rfl
  replace g2 : DataW.trod enc Try.prog W base (fun _ => true) held n' 33 [u2] = some w2 := by simpa [show Try.prog.cellsOf 33 = 1 by kernel_rfl] using g2
  obtain ⟨M, hM⟩ := sc_of g2
  exact ⟨⟨z0, z1, M⟩, u2, rfl, hM⟩
set_option maxHeartbeats 2000000 in
theorem open_C {H : Type} {enc : TypeId × Value → H} {W : World} {base : Nat} {held : Bool} (n : Nat) (cs : List Value) (y : DataW H × List MemPlace) (hl : cs.length = 3) (h : DataW.trod enc Try.prog W base (fun _ => true) held n 61 cs = some y) (hw : ∀ n ∈ y.1.weights Try.prog 61, n ≤ reachBytes) : ∃ x : OC, RO W x cs := by
  obtain ⟨n', hf⟩ := evfield_of Try.underlying61 h hw
  obtain ⟨u0, u1, u2, rfl⟩ := evlen3 hl
  obtain ⟨w0, g0, k0⟩ := hf 0 _ rfl
  replace g0 : DataW.trod enc Try.prog W base (fun _ => true) held n' 3 [u0] = some w0 := by simpa [show Try.prog.cellsOf 3 = 1 by kernel_rfl] using g0
  obtain ⟨z0, e0, _, f0⟩ := DataW.trod_int Try.underlying3 g0
  injection e0 with e0
  subst e0
  obtain ⟨w1, g1, k1⟩ := hf 1 _ rfl
  replace g1 : DataW.trod enc Try.prog W base (fun _ => true) held n' 3 [u1] = some w1 := by simpa [show Try.prog.cellsOf 3 = 1 by kernel_rfl] using g1
  obtain ⟨z1, e1, _, f1⟩ := DataW.trod_int Try.underlying3 g1
  injection e1 with e1
  subst e1
  obtain ⟨w2, g2, k2⟩ := hf 2 _ rfl
  replace g2 : DataW.trod enc Try.prog W base (fun _ => true) held n' 33 [u2] = some w2 := by simpa [show Try.prog.cellsOf 33 = 1 by kernel_rfl] using g2
  obtain ⟨M, hM⟩ := sc_of g2
  exact ⟨⟨z0, z1, M⟩, u2, rfl, hM⟩
/-- What is done, in memory. -/
structure OX (lo : Nat) (w : World) (b off : Nat) (kd now : Int) (Am : Option Addr) (m cm : Nat) (M : List Int) : Prop where
  c0 : w.cell? ⟨b, off, none⟩ = some (.int .i64 kd)
  c1 : w.cell? ⟨b, off + 1, none⟩ = some (.int .i64 now)
  c2 : w.cell? ⟨b, off + 2, none⟩ = some (.slice Am m cm)
  bl : b < lo
  mq : Sq w (fun b => b < lo) (.slice Am m cm) m (CU M)
  mc : m ≤ cm
  mn : Am = none → cm = 0
theorem OX.low {lo : Nat} {w w' : World} {b off : Nat} {kd now : Int} {Am : Option Addr} {m cm : Nat} {M : List Int} (h : OX lo w b off kd now Am m cm M) (hb : Below lo w w') : OX lo w' b off kd now Am m cm M :=
  ⟨(hb.cell (by exact h.bl)).trans h.c0, (hb.cell (by exact h.bl)).trans h.c1, (hb.cell (by exact h.bl)).trans h.c2, h.bl, sq_low h.mq hb, h.mc, h.mn⟩
/-- One of them, opened. -/
theorem OX.of {w : World} {a : Option Addr} {len cap : Nat} {xs : List OC} (h : Row w 3 (RO w) (.slice a len cap) xs) {i : Nat} (hi : i < len) : ∃ b off kd now Am m cm M, a = some ⟨b, off, none⟩ ∧ OX w.heap.size w b (off + i * 3) kd now Am m cm M := by
  obtain ⟨_, b, off, x, cs, rfl, hb, hx, ⟨v, rfl, hs⟩, _, hc⟩ := h.at_ i hi
  obtain ⟨Am, cm, rfl, sq, h1, h2⟩ := hs.ex
  have e0 := hc 0 _ rfl
  have e1 := hc 1 _ rfl
  have e2 := hc 2 _ rfl
  exact ⟨b, off, x.kd, x.nw, Am, x.m.length, cm, x.m, rfl, e0, e1, e2, hb, sq, h1, h2⟩
theorem send_any (lo : Nat) (p PR PM : Nat → Prop) (g : Nat) (s : SS) (LL : List (List Int)) (Ar : Option Addr) (nr cr : Nat) (S : List Sl) (kd now : Int) (Am : Option Addr) (m cm : Nat) (M : List Int) (w : World) (h : SV lo w p (fun _ => True) g s LL) (hp : Sq w PR (.slice Ar nr cr) nr (CS S)) (hpr : ∀ b, PR b → ¬ p b) (hm : Ms w (fun _ => True) S LL) (hcp : nr ≤ cr) (hmq : Sq w PM (.slice Am m cm) m (CU M)) (hmc : m ≤ cm) (hmn : Am = none → cm = 0) : Calls Try.prog 12 #[.pointer (some ⟨g, 0, none⟩), .agg #[.int .i64 s.gap, .int .i64 s.words, .int .i64 s.room, .slice Ar nr cr, .int .i64 s.next, .int .i64 s.rl], .agg #[.int .i64 kd, .int .i64 now, .slice Am m cm]] w fun e w' => ∃ q s' LL' A' n' c' S', e = .returned (.tuple #[.agg #[.int .i64 s'.gap, .int .i64 s'.words, .int .i64 s'.room, .slice A' n' c', .int .i64 s'.next, .int .i64 s'.rl], .bool true]) ∧ SV lo w' q (fun _ => True) g s' LL' ∧ Nx p q w w' ∧ Sq w' (fun b => ((b < w.heap.size ∧ PR b) ∨ w.heap.size ≤ b) ∧ ¬ q b) (.slice A' n' c') n' (CS S') ∧ Ms w' (fun _ => True) S' LL' ∧ n' ≤ c' := by
  by_cases hk : kd.tmod 2 = 0
  · exact send_even lo p PR PM g s LL Ar nr cr S kd now Am m cm M w h hp hpr hm hcp hmq hmc hmn (by simpa using hk)
  · exact send_odd lo p PR PM g s LL Ar nr cr S kd now Am m cm M w h hp hpr hm hcp hmq hmc hmn (by simpa using hk) hk
end Go.Proofs.Ytkbjonblflhkoaa.Ln
