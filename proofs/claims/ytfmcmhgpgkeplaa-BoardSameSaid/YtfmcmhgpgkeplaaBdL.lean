/-
  What the laws of boards keep: arguments, lists of their own. Each statement bears its own conditions.
-/
import Derived.Test.YtfmcmhgpgkeplaaBdS
namespace Go.Proofs.Ytfmcmhgpgkeplaa.B
open Go.RowKit Go.Proofs.Ytfmcmhgpgkeplaa.F Go.Proofs.Ytfmcmhgpgkeplaa.I
set_option linter.unusedVariables false
set_option linter.unusedSimpArgs false
def IsRow (k : IntKind) (w : World) (a : Option Addr) (len cap : Nat) (zs : List Int) : Prop :=
  (a = none ∧ len = 0 ∧ cap = 0 ∧ zs = []) ∨
  ∃ x, a = some x ∧ len ≤ cap ∧ cap ≤ maxLen ∧ zs.length = cap ∧ (∀ i, i < zs.length → w.cell? (x.add i) = some (.int k (zs.getD i 0))) ∧ ∀ n ∈ zs, (Lit.int k n).wf = true
theorem IsRow.le {k : IntKind} {w : World} {a : Option Addr} {len cap : Nat} {zs : List Int} (h : IsRow k w a len cap zs) : len ≤ cap ∧ len ≤ zs.length := by
  rcases h with ⟨_, rfl, rfl, rfl⟩ | ⟨x, _, h1, _, h2, _⟩
  · simp
  · omega
theorem row_at {k : IntKind} {w : World} {a : Option Addr} {len cap : Nat} {zs : List Int} (h : IsRow k w a len cap zs) (hn : 0 < len) : ∃ b off, a = some ⟨b, off, none⟩ ∧ b < w.heap.size ∧ ∀ i, i < len → w.cell? ⟨b, off + i, none⟩ = some (.int k (zs.getD i 0)) ∧ (Lit.int k (zs.getD i 0)).wf = true := by
  rcases h with ⟨rfl, rfl, rfl, rfl⟩ | ⟨⟨b, off, spot⟩, rfl, h1, h2, h3, h4, h5⟩
  · omega
  · have e0 := h4 0 (by omega)
    have hs : spot = none := by simpa [Addr.add] using World.cell?_spot e0
    subst hs
    refine ⟨b, off, rfl, ?_, fun i hi => ⟨?_, ?_⟩⟩
    · have := World.block_lt_of_cell? _ _ e0
      simpa [block_of_add] using this
    · have := h4 i (by omega)
      rwa [Addr.add_lit] at this
    · apply h5
      rw [List.getD_eq_getElem?_getD, List.getElem?_eq_getElem (by omega)]
      exact List.getElem_mem _
/-- An argument is a list that is read. -/
theorem IsRow.sq {k : IntKind} {w : World} {a : Option Addr} {len cap : Nat} {zs : List Int} (h : IsRow k w a len cap zs) : Sq w (fun b => b < w.heap.size) (.slice a len cap) len ((zs.take len).map (Value.int k)) := by
  have hl := h.le
  refine ⟨a, cap, rfl, by rw [List.length_map, List.length_take]; omega, fun h0 => ?_⟩
  obtain ⟨b, off, rfl, hb, hc⟩ := row_at h h0
  refine ⟨b, off, rfl, hb, hb, fun j u hu => ?_⟩
  rw [List.getElem?_map] at hu
  have hj : j < len := by
    by_cases hj : j < len
    · exact hj
    · rw [List.getElem?_eq_none (by rw [List.length_take]; omega)] at hu; cases hu
  rw [(hc j hj).1]
  rw [List.getElem?_take_of_lt hj, List.getElem?_eq_getElem (by omega)] at hu
  simp only [Option.map_some, Option.some.injEq] at hu
  rw [← hu, List.getD_eq_getElem?_getD, List.getElem?_eq_getElem (by omega)]
  rfl
theorem cell_low {lo : Nat} {w w' : World} {b o : Nat} {u : Value} (h : Below lo w w') (hb : b < lo) (hc : w.cell? ⟨b, o, none⟩ = some u) : w'.cell? ⟨b, o, none⟩ = some u := (h.cell (by exact hb)).trans hc
theorem sq_low {lo : Nat} {w w' : World} {v : Value} {n : Nat} {xs : List Value} (h : Sq w (fun b => b < lo) v n xs) (hb : Below lo w w') : Sq w' (fun b => b < lo) v n xs := (h.keep hb.size fun b _ hp => hb.block b hp).imp fun b _ hb => hb.2
/-- A list of the law's own, apart from a board, grows. -/
theorem grow_own {lo : Nat} {w w2 : World} {q : Nat → Prop} {g : Nat} {n : Int} {sh : Bool} {M L : List Int} {v v2 : Value} {m m2 : Nat} {xs xs2 : List Value} {o : Obj} (E : BV lo w q g n sh M L) (h : Ow 3 w (fun b => lo ≤ b ∧ ¬ q b) v m xs)
    (ho : w2.ownsRow 0 3 1 v2 m2 xs2) (hg : (w.alloc o).grownBy w2 v.ownBlock) (hb : v2.ownBlock = v.ownBlock ∨ v2.ownBlock = some (w.heap.size + 1)) :
    Ow 3 w2 (fun b => lo ≤ b ∧ ¬ q b) v2 m2 xs2 ∧ BV lo w2 q g n sh M L ∧ Below lo w w2 := by
  have G := h.grow1 ho hg hb
  have hlt := E.low g E.pg
  refine ⟨G.1.imp fun b _ hb => ?_, E.fo G.2 (fun b hb h => h.2 hb), G.2.below (fun b hb => hb.1) (by omega)⟩
  rcases hb with hb | hb
  · exact hb
  · exact ⟨by omega, fun hq => by have := (E.low b hq).2; omega⟩
theorem iequal_same (g g' : Nat) (v v' : Value) (a : List Int) (w : World) (h : St g w 1 v a.length (C a)) (h' : St g' w 1 v' a.length (C a)) (hm : a.length ≤ 5000) :
    Calls Try.prog 16 #[v, v'] w fun e w' => e = .returned (.bool true) ∧ Below w.heap.size w w' :=
  (I2.iequal_any g g' v v' a a w h h' hm).mono fun e w' h => ⟨by rw [h.1]; simp, h.2⟩
theorem uequal_same (g g' : Nat) (v v' : Value) (a : List Int) (w : World) (h : St g w 1 v a.length (CU a)) (h' : St g' w 1 v' a.length (CU a)) (hm : a.length ≤ 5000) :
    Calls Try.prog 22 #[v, v'] w fun e w' => e = .returned (.bool true) ∧ Below w.heap.size w w' :=
  (U.uequal_any g g' v v' a a w h h' hm).mono fun e w' h => ⟨by rw [h.1]; simp, h.2⟩
/-- A list that is owned, one taken out. -/
theorem own_delete {P : Nat → Prop} {v : Value} {L : List Int} {w : World} (h : Ow 3 w P v L.length (C L)) (k : Nat) (hk : k + 1 ≤ L.length) (hL : L.length ≤ 900) :
    Calls Try.prog 26 #[v, .int .i64 (k : Int), .int .i64 ((k : Int) + 1)] w fun e w' => ∃ v', e = .returned v' ∧ Ow 3 w' P v' (L.take k ++ L.drop (k + 1)).length (C (L.take k ++ L.drop (k + 1))) ∧ Fo P w w' := by
  rcases h.form with ⟨_, h0, _⟩ | ⟨b, cap, cur, hv, hp, hb, _⟩
  · omega
  · have hR : RowV w v b L := ⟨h.own, fun k hk => by rw [hv] at hk; injection hk with hk; exact hk.symm⟩
    have := delete_any v b k (k + 1) L w hR (by omega) hk (by omega)
    have hc : (((k + 1 : Nat) : Nat) : Int) = (k : Int) + 1 := by omega
    rw [hc] at this
    refine this.mono ?_
    rintro e w' ⟨v', rfl, r, p⟩
    refine ⟨v', rfl, ⟨r.own, fun j hj => ?_⟩, Fo.of_past p hp⟩
    rw [r.at_ j hj]
    exact ⟨hp, Nat.lt_of_lt_of_le hb p.size⟩
theorem BV.nil {lo : Nat} {w : World} {p : Nat → Prop} {g : Nat} {n : Int} {sh : Bool} {M L : List Int} (h : BV lo w p g n sh M L) : lo ≤ w.heap.size := by
  have := h.low g h.pg; omega
end Go.Proofs.Ytfmcmhgpgkeplaa.B
