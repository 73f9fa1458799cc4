/-
  Two locks that lie apart, and what is done with them; acts that come in. Each statement bears its own conditions.
-/
import Derived.Test.YtbnnpfhgpbaedaaLkS
import Derived.Test.YtbnnpfhgpbaedaaLkT
import Derived.Test.YtbnnpfhgpbaedaaLkJ
namespace Go.Proofs.Ytbnnpfhgpbaedaa.K
open Go.RowKit
open Go.ChangeShapes Go.WideShapes Go.ChangeAt
set_option linter.unusedVariables false
set_option linter.unusedSimpArgs false
def IsRow (k : IntKind) (w : World) (a : Option Addr) (len cap : Nat) (zs : List Int) : Prop :=
  (a = none ∧ len = 0 ∧ cap = 0 ∧ zs = []) ∨
  ∃ x, a = some x ∧ len ≤ cap ∧ cap ≤ maxLen ∧ zs.length = cap ∧ (∀ i, i < zs.length → w.cell? (x.add i) = some (.int k (zs.getD i 0))) ∧ ∀ n ∈ zs, (Lit.int k n).wf = true
theorem IsRow.le {k : IntKind} {w : World} {a : Option Addr} {len cap : Nat} {zs : List Int} (h : IsRow k w a len cap zs) : len ≤ cap ∧ len ≤ zs.length := by
  rcases h with ⟨_, rfl, rfl, rfl⟩ | ⟨x, _, h1, _, h2, _⟩
  · simp
  · omega
theorem row_at {k : IntKind} {w : World} {a : Option Addr} {len cap : Nat} {zs : List Int} (h : IsRow k w a len cap zs) (hn : 0 < len) : ∃ b off, a = some ⟨b, off, none⟩ ∧ b < w.heap.size ∧ ∀ i, i < len → w.cell? ⟨b, off + i, none⟩ = some (.int k (zs.getD i 0)) ∧ (Lit.int k (zs.getD i 0)).wf = true := by
  rcases h with ⟨rfl, rfl, rfl, rfl⟩ | ⟨⟨b, off, spot⟩, rfl, h1, h2, h3, h4, h5⟩
  · omega
  · have e0 := h4 0 (by omega)
    have hs : spot = none := by simpa [Addr.add] using World.cell?_spot e0
    subst hs
    refine ⟨b, off, rfl, ?_, fun i hi => ⟨?_, ?_⟩⟩
    · have := World.block_lt_of_cell? _ _ e0
      simpa [block_of_add] using this
    · have := h4 i (by omega)
      rwa [Addr.add_lit] at this
    · apply h5
      rw [List.getD_eq_getElem?_getD, List.getElem?_eq_getElem (by omega)]
      exact List.getElem_mem _
/-- The front of an argument is a list that is read. -/
theorem IsRow.front {w : World} {a : Option Addr} {len cap : Nat} {zs : List Int} (h : IsRow .i64 w a len cap zs) (n : Nat) (hn : n ≤ len) : (zs.take n).length = n ∧ F.Sq w (fun b => b < w.heap.size) (.slice a n cap) n (C (zs.take n)) := by
  have hl := h.le
  have hlen : (zs.take n).length = n := by rw [List.length_take]; omega
  refine ⟨hlen, a, cap, rfl, by unfold C; rw [List.length_map]; exact hlen, fun h0 => ?_⟩
  obtain ⟨b, off, rfl, hb, hc⟩ := row_at h (by omega)
  refine ⟨b, off, rfl, hb, hb, fun j u hu => ?_⟩
  unfold C at hu
  rw [List.getElem?_map] at hu
  have hj : j < n := by
    by_cases hj : j < n
    · exact hj
    · rw [List.getElem?_eq_none (by omega)] at hu; cases hu
  rw [(hc j (by omega)).1]
  rw [List.getElem?_take_of_lt hj, List.getElem?_eq_getElem (by omega)] at hu
  simp only [Option.map_some, Option.some.injEq] at hu
  rw [← hu, List.getD_eq_getElem?_getD, List.getElem?_eq_getElem (by omega)]
  rfl
theorem cell_low {lo : Nat} {w w' : World} {b o : Nat} {u : Value} (h : Below lo w w') (hb : b < lo) (hc : w.cell? ⟨b, o, none⟩ = some u) : w'.cell? ⟨b, o, none⟩ = some u := (h.cell (by exact hb)).trans hc
theorem evfield_of {H : Type} {enc : TypeId × Value → H} {P : Program} {W : World} {base : Nat} {held : Bool} {t : TypeId} {fs : Array Field} {fuel : Nat} {cs : List Value} {x : DataW H × List MemPlace} (ht : P.underlying t = some (.struct fs)) (h : DataW.trod enc P W base (fun _ => true) held fuel t cs = some x) (hw : ∀ n ∈ x.1.weights P t, n ≤ reachBytes) :
    ∃ n', ∀ (j : Nat) (F : Field), fs[j]? = some F → ∃ y, DataW.trod enc P W base (fun _ => true) held n' F.type ((cs.drop F.offset).take (P.cellsOf F.type)) = some y ∧ ∀ n ∈ y.1.weights P F.type, n ≤ reachBytes := by
  obtain ⟨ys, n', _, hy, _, hyl, hf⟩ := DataW.trod_struct ht h
  refine ⟨n', fun j F hF => ?_⟩
  have hj : j < fs.size := (Array.getElem?_eq_some_iff.1 hF).1
  refine ⟨ys[j]'(by omega), by rw [hf j F hF]; exact List.getElem?_eq_getElem (by omega), fun z hz => hw z ?_⟩
  rw [hy]
  simp only [DataW.weights, ht]
  refine DataW.weights_mem_each (ts := fs.toList.map (·.type)) (j := j) (t := F.type) (d := (ys[j]'(by omega)).1) ?_ ?_ z hz
  · rw [List.getElem?_map, Array.getElem?_toList, hF]; rfl
  · rw [List.getElem?_map, List.getElem?_eq_getElem (by omega)]; rfl
/-- Something that is done. -/
structure AC where
  d : Int
  id : Int
  b : Int
  l : Int
def RK (x : AC) (cs : List Value) : Prop := cs = [.int .i64 x.d, .int .i64 x.id, .int .i64 x.b, .int .i64 x.l]
theorem evlen4 {cs : List Value} (h : cs.length = 4) : ∃ u0 u1 u2 u3 : Value, cs = [u0, u1, u2, u3] := by
  match cs, h with
  | [u0, u1, u2, u3], _ => exact ⟨_, _, _, _, rfl⟩
set_option maxHeartbeats 2000000 in
theorem open_K {H : Type} {enc : TypeId × Value → H} {W : World} {base : Nat} {held : Bool} (n : Nat) (cs : List Value) (y : DataW H × List MemPlace) (hl : cs.length = 4) (h : DataW.trod enc Try.prog W base (fun _ => true) held n 36 cs = some y) (hw : ∀ n ∈ y.1.weights Try.prog 36, n ≤ reachBytes) : ∃ x : AC, RK x cs := by
  obtain ⟨n', hf⟩ := evfield_of Try.underlying36 h hw
  obtain ⟨u0, u1, u2, u3, rfl⟩ := evlen4 hl
  obtain ⟨w0, g0, k0⟩ := hf 0 _ rfl
  replace g0 : DataW.trod enc Try.prog W base (fun _ => true) held n' 3 [u0] = some w0 := by simpa [show Try.prog.cellsOf 3 = 1 by kernel_rfl] using g0
  obtain ⟨z0, e0, _, f0⟩ := DataW.trod_int Try.underlying3 g0
  injection e0 with e0
  subst e0
  obtain ⟨w1, g1, k1⟩ := hf 1 _ rfl
  replace g1 : DataW.trod enc Try.prog W base (fun _ => true) held n' 3 [u1] = some w1 := by simpa [show Try.prog.cellsOf 3 = 1 by kernel_rfl] using g1
  obtain ⟨z1, e1, _, f1⟩ := DataW.trod_int Try.underlying3 g1
  injection e1 with e1
  subst e1
  obtain ⟨w2, g2, k2⟩ := hf 2 _ rfl
  replace g2 : DataW.trod enc Try.prog W base (fun _ => true) held n' 3 [u2] = some w2 := by simpa [show Try.prog.cellsOf 3 = 1 by kernel_rfl] using g2
  obtain ⟨z2, e2, _, f2⟩ := DataW.trod_int Try.underlying3 g2
  injection e2 with e2
  subst e2
  obtain ⟨w3, g3, k3⟩ := hf 3 _ rfl
  replace g3 : DataW.trod enc Try.prog W base (fun _ => true) held n' 3 [u3] = some w3 := by simpa [show Try.prog.cellsOf 3 = 1 by kernel_rfl] using g3
  obtain ⟨z3, e3, _, f3⟩ := DataW.trod_int Try.underlying3 g3
  injection e3 with e3
  subst e3
  exact ⟨⟨z0, z1, z2, z3⟩, rfl⟩
theorem lowK (K : Int) (hK : 1 ≤ K ∧ K ≤ 100) (x : Int) : ∃ u q : Nat, IntKind.u64.wrap x = (u : Int) ∧ (u : Int) % K = (q : Int) ∧ ((u : Int).tmod K) = (q : Int) ∧ (q : Int) < K ∧ IntKind.i64.wrap (q : Int) = (q : Int) := by
  obtain ⟨u, hu⟩ : ∃ u : Nat, IntKind.u64.wrap x = (u : Int) := ⟨(IntKind.u64.wrap x).toNat, by rw [IntKind.wrap_u64]; omega⟩
  have h1 : 0 ≤ (u : Int) % K := Int.emod_nonneg _ (by omega)
  have h2 : (u : Int) % K < K := Int.emod_lt_of_pos _ (by omega)
  obtain ⟨q, hq⟩ : ∃ q : Nat, (u : Int) % K = (q : Int) := ⟨((u : Int) % K).toNat, by omega⟩
  refine ⟨u, q, hu, hq, ?_, by omega, wrap_ok (by omega) (by omega)⟩
  rw [Int.tmod_eq_emod_of_nonneg (by omega)]; exact hq
/-- A list of ids of one lock alone. -/
structure Gd (n i j : Nat) (L : List (Int × Int)) : Prop where
  len : L.length ≤ j
  mem : ∀ x ∈ L, ∃ q : Nat, x.1 = (q : Int) ∧ q < 200 ∧ q % n = i
theorem Gd.mono {n i j j' : Nat} {L : List (Int × Int)} (h : Gd n i j L) (hj : j ≤ j') : Gd n i j' L := ⟨Nat.le_trans h.len hj, h.mem⟩
theorem Gd.tk {n i j q : Nat} {L : List (Int × Int)} (h : Gd n i j L) (ce : Int) (o : Option Int) (bs : Int) (hq : q < 200 ∧ q % n = i) : Gd n i (j + 1) (tkW ce L o (q : Int) bs) := by
  have h1 := h.mono (Nat.le_succ j)
  unfold tkW
  split
  · exact h1
  split
  · exact h1
  split
  · exact h1
  split
  · exact h1
  split
  · exact h1
  refine ⟨by rw [joinP_len]; have := h.len; omega, fun x hx => ?_⟩
  unfold joinP at hx
  rcases List.mem_append.1 hx with hx | hx
  · exact h.mem x (List.mem_of_mem_take hx)
  · rcases List.mem_cons.1 hx with hx | hx
    · exact ⟨q, by rw [hx], hq.1, hq.2⟩
    · exact h.mem x (List.mem_of_mem_drop hx)
theorem Gd.gv {n i j : Nat} {L : List (Int × Int)} (h : Gd n i j L) (o : Option Int) (id : Int) : Gd n i (j + 1) (gvW L o id) := by
  have h1 := h.mono (Nat.le_succ j)
  unfold gvW
  split
  · exact h1
  split
  · exact h1
  exact ⟨by rw [List.length_tail]; have := h.len; omega, fun x hx => h.mem x (List.mem_of_mem_tail hx)⟩
/-- One lock of which at most j calls were asked. -/
structure One (lo j g bc bw bm N : Nat) (rb : Nat → Nat) (cs : List Int) (ws : Nat → List (Int × Int)) (os : Int → Option Int) (w : World) : Prop where
  lv : LV lo w g bc bw bm N rb cs ws os
  bc : bc < w.heap.size
  N : N ≤ j
  gd : ∀ i, i < cs.length → Gd cs.length i j (ws i)
section
variable {lo j g bc bw bm N : Nat} {rb : Nat → Nat} {cs : List Int} {ws : Nat → List (Int × Int)} {os : Int → Option Int} {w : World}
theorem One.mono {j' : Nat} (h : One lo j g bc bw bm N rb cs ws os w) (hj : j ≤ j') : One lo j' g bc bw bm N rb cs ws os w := ⟨h.lv, h.bc, Nat.le_trans h.N hj, fun i hi => (h.gd i hi).mono hj⟩
theorem One.below {w' : World} (h : One lo j g bc bw bm N rb cs ws os w) (hb : Below w.heap.size w w') : One lo j g bc bw bm N rb cs ws os w' := ⟨h.lv.below hb, Nat.lt_of_lt_of_le h.bc hb.size, h.N, h.gd⟩
theorem One.len (h : One lo j g bc bw bm N rb cs ws os w) (hj : j ≤ 40) : ∀ i, i < cs.length → (ws i).length ≤ 900 := fun i hi => by have := (h.gd i hi).len; omega
theorem One.oth {i q : Nat} (h : One lo j g bc bw bm N rb cs ws os w) (hq : q % cs.length = i) : Oth ws cs.length i (q : Int) := fun k hk hki x hx e => by
  obtain ⟨r, h1, _, h3⟩ := (h.gd k hk).mem x hx
  have : r = q := by omega
  subst this
  omega
theorem putN_gd {i : Nat} {L : List (Int × Int)} (h : ∀ i, i < cs.length → Gd cs.length i j (ws i)) (hL : Gd cs.length i (j + 1) L) : ∀ k, k < cs.length → Gd cs.length k (j + 1) (putN ws i L k) := fun k hk => by
  unfold putN
  split
  · next e => rw [e]; exact hL
  · exact (h k hk).mono (Nat.le_succ j)
theorem One.take (h : One lo j g bc bw bm N rb cs ws os w) (hn : cs.length ≤ 16) (hj : j ≤ 40) (i q : Nat) (bs : Int) (hi : i < cs.length) (hq : q < 200 ∧ q % cs.length = i) :
    Calls Try.prog 14 #[.pointer (some ⟨g, 0, none⟩), .int .i64 (q : Int), .int .i64 bs, .int .i64 (i : Int)] w fun e w' => ∃ r rb' N', e = .returned r ∧ One lo (j + 1) g bc bw bm N' rb' cs (putN ws i (tkW (cs.getD i 0) (ws i) (os i) (q : Int) bs)) (put os i (tkO (cs.getD i 0) (ws i) (os i) (q : Int) bs)) w' ∧ Lx bw bm cs.length rb rb' w w' := by
  refine (take_eff lo g bc bw bm N rb cs ws os (q : Int) bs i w h.lv hn (h.len hj) hi (by omega) (by have := h.N; omega) (h.oth hq.2)).mono ?_
  rintro e w' ⟨r, rb', N', rfl, hN, h1, h2⟩
  exact ⟨r, rb', N', rfl, ⟨h1, Nat.lt_of_lt_of_le h.bc h2.size, by have := h.N; omega, putN_gd h.gd ((h.gd i hi).tk _ _ _ hq)⟩, h2⟩
theorem One.give (h : One lo j g bc bw bm N rb cs ws os w) (hn : cs.length ≤ 16) (hj : j ≤ 40) (i q : Nat) (hi : i < cs.length) (hq : q < 200 ∧ q % cs.length = i) :
    Calls Try.prog 16 #[.pointer (some ⟨g, 0, none⟩), .int .i64 (q : Int), .int .i64 (i : Int)] w fun e w' => ∃ r rb' N', e = .returned r ∧ One lo (j + 1) g bc bw bm N' rb' cs (putN ws i (gvW (ws i) (os i) (q : Int))) (put os i (gvO (ws i) (os i) (q : Int))) w' ∧ Lx bw bm cs.length rb rb' w w' := by
  refine (give_eff lo g bc bw bm N rb cs ws os (q : Int) i w h.lv hn (h.len hj) hi (by have := h.N; omega) (h.oth hq.2) (fun x hx => by
    obtain ⟨r, h1, h2, _⟩ := (h.gd i hi).mem x hx
    omega)).mono ?_
  rintro e w' ⟨r, rb', N', rfl, hN, h1, h2⟩
  exact ⟨r, rb', N', rfl, ⟨h1, Nat.lt_of_lt_of_le h.bc h2.size, by have := h.N; omega, putN_gd h.gd ((h.gd i hi).gv _ _)⟩, h2⟩
theorem One.blk (h : One lo j g bc bw bm N rb cs ws os w) : ∀ b, Blk g bc bw bm cs.length rb b → b < w.heap.size := fun b hb => by
  rcases hb with hb | hb | hb | hb | ⟨i, hi, hb⟩
  · rw [hb]; exact h.lv.lt.1
  · rw [hb]; exact h.bc
  · rw [hb]; exact h.lv.lt.2.1
  · rw [hb]; exact h.lv.lt.2.2.1
  · rw [hb]; exact h.lv.lt.2.2.2 i hi
end
/-- Apart. -/
def Ap (P Q : Nat → Prop) : Prop := ∀ b, P b → ¬ Q b
theorem Ap.symm {P Q : Nat → Prop} (h : Ap P Q) : Ap Q P := fun b hb hp => h b hp hb
theorem Ap.lx {g bc bw bm n : Nat} {rb rb' : Nat → Nat} {Q : Nat → Prop} {w w' : World} (h : Ap (Blk g bc bw bm n rb) Q) (x : Lx bw bm n rb rb' w w') (hq : ∀ b, Q b → b < w.heap.size) : Ap (Blk g bc bw bm n rb') Q := fun b hb hQ => by
  rcases hb with hb | hb | hb | hb | ⟨i, hi, hb⟩
  · exact h b (.inl hb) hQ
  · exact h b (.inr (.inl hb)) hQ
  · exact h b (.inr (.inr (.inl hb))) hQ
  · exact h b (.inr (.inr (.inr (.inl hb)))) hQ
  · rcases x.rb i hi with e | e
    · exact h b (.inr (.inr (.inr (.inr ⟨i, hi, by rw [hb, e]⟩)))) hQ
    · have := hq b hQ; omega
theorem Ap.at_ {g bc bw bm n : Nat} {rb : Nat → Nat} {Q : Nat → Prop} (h : Ap (Blk g bc bw bm n rb) Q) {b : Nat} (hb : Q b) : b ≠ bw ∧ b ≠ bm ∧ ∀ i, i < n → b ≠ rb i :=
  ⟨fun e => h b (.inr (.inr (.inl e))) hb, fun e => h b (.inr (.inr (.inr (.inl e)))) hb, fun i hi e => h b (.inr (.inr (.inr (.inr ⟨i, hi, e⟩)))) hb⟩
theorem One.other {lo j g bc bw bm N : Nat} {rb : Nat → Nat} {cs : List Int} {ws : Nat → List (Int × Int)} {os : Int → Option Int} {w w' : World} {g2 bc2 bw2 bm2 n2 : Nat} {rb2 rb3 : Nat → Nat} (h : One lo j g bc bw bm N rb cs ws os w) (x : Lx bw2 bm2 n2 rb2 rb3 w w') (ha : Ap (Blk g2 bc2 bw2 bm2 n2 rb2) (Blk g bc bw bm cs.length rb)) : One lo j g bc bw bm N rb cs ws os w' :=
  ⟨h.lv.other x h.bc fun b hb => ha.at_ hb, Nat.lt_of_lt_of_le h.bc x.size, h.N, h.gd⟩
/-- Two that are alike, of any lock but one, of which the second one was never asked. -/
structure Two (lo out j : Nat) (cs : List Int) (ga bca bwa bma gb bcb bwb bmb : Nat) (w : World) : Prop where
  ex : ∃ (Na : Nat) (rba : Nat → Nat) (wsa : Nat → List (Int × Int)) (osa : Int → Option Int) (Nb : Nat) (rbb : Nat → Nat) (wsb : Nat → List (Int × Int)) (osb : Int → Option Int),
    One lo j ga bca bwa bma Na rba cs wsa osa w ∧ One lo j gb bcb bwb bmb Nb rbb cs wsb osb w ∧ Ap (Blk ga bca bwa bma cs.length rba) (Blk gb bcb bwb bmb cs.length rbb) ∧ (∀ i, i < cs.length → i ≠ out → wsa i = wsb i ∧ osa (i : Int) = osb (i : Int)) ∧ wsb out = [] ∧ osb (out : Int) = none
theorem same_step {n out i : Nat} {wsa wsb : Nat → List (Int × Int)} {osa osb : Int → Option Int} (h : ∀ i, i < n → i ≠ out → wsa i = wsb i ∧ osa (i : Int) = osb (i : Int)) (f : List (Int × Int) → Option Int → List (Int × Int)) (o : List (Int × Int) → Option Int → Option Int) :
    ∀ k, k < n → k ≠ out → putN wsa i (f (wsa i) (osa i)) k = putN wsb i (f (wsb i) (osb i)) k ∧ put osa (i : Int) (o (wsa i) (osa i)) (k : Int) = put osb (i : Int) (o (wsb i) (osb i)) (k : Int) := fun k hk hko => by
  have h1 := h k hk hko
  unfold putN put
  by_cases hki : k = i
  · subst hki
    simp [h1.1, h1.2]
  · have h2 : ¬ (k : Int) = (i : Int) := by omega
    simp [hki, h2, h1.1, h1.2]
theorem out_step {out i : Nat} {wsb : Nat → List (Int × Int)} {osb : Int → Option Int} (hi : ¬ i = out) (L : List (Int × Int)) (o : Option Int) (h1 : wsb out = []) (h2 : osb (out : Int) = none) : putN wsb i L out = [] ∧ put osb (i : Int) o (out : Int) = none := by
  unfold putN put
  have h3 : ¬ out = i := fun e => hi e.symm
  have h4 : ¬ (out : Int) = (i : Int) := by omega
  simp [h3, h4, h1, h2]
theorem alone_step {n out : Nat} {wsa wsb : Nat → List (Int × Int)} {osa osb : Int → Option Int} (h : ∀ i, i < n → i ≠ out → wsa i = wsb i ∧ osa (i : Int) = osb (i : Int)) (L : List (Int × Int)) (o : Option Int) :
    ∀ k, k < n → k ≠ out → putN wsa out L k = wsb k ∧ put osa (out : Int) o (k : Int) = osb (k : Int) := fun k hk hko => by
  have h1 := h k hk hko
  unfold putN put
  have h2 : ¬ (k : Int) = (out : Int) := by omega
  simp [hko, h2, h1.1, h1.2]
end Go.Proofs.Ytbnnpfhgpbaedaa.K
