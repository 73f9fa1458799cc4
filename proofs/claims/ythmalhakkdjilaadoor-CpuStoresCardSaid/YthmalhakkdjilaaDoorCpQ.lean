/-
  Contract of the statements' New, of lists of at most 60 words. Each statement bears its own conditions.
-/
import Derived.Test.YthmalhakkdjilaaDoorCpO
namespace Go.Proofs.YthmalhakkdjilaaDoor
open Go.RowKit
set_option linter.unusedVariables false
set_option linter.unusedSimpArgs false
def CW (l : List Int) : List Value := l.map (Value.int .u32)
theorem CW_len (l : List Int) : (CW l).length = l.length := by simp [CW]
theorem CW_one (l : List Int) : ∀ u ∈ CW l, u.oneCell' = true := by
  intro u hu
  obtain ⟨x, _, rfl⟩ := List.mem_map.1 hu
  rfl
theorem CW_at (l : List Int) (i : Nat) (h : i < l.length) : (CW l)[i]? = some (.int .u32 (l.getD i 0)) := by
  simp [CW, List.getD_eq_getElem?_getD, List.getElem?_eq_getElem h]
theorem cinfo_of {e : TypeId} {z : Option Value} {k b : Nat} (h : (Tryd.prog.info? e).map (fun i => (i.zero, i.size, i.bytes)) = some (z, k, b)) : ∃ i, Tryd.prog.info? e = some i ∧ i.zero = z ∧ i.size = k ∧ i.bytes = b := by
  cases hq : Tryd.prog.info? e with
  | none => rw [hq] at h; cases h
  | some i =>
    rw [hq] at h
    simp only [Option.map_some, Option.some.injEq, Prod.mk.injEq] at h
    exact ⟨i, rfl, h.1, h.2.1, h.2.2⟩
theorem cu32_info : (Tryd.prog.info? 22).map (fun i => (i.zero, i.size, i.bytes)) = some (some (.int .u32 0), 1, 4) := by kernel_rfl
theorem crow_empty (e : TypeId) (w : World) : (w.alloc (.cells #[] e)).ownsRow w.heap.size e 1 (.slice (some ⟨w.heap.size, 0, none⟩) 0 0) 0 [] :=
  ⟨rfl, .inr ⟨w.heap.size, 0, #[], rfl, Nat.le_refl _, heap_alloc_new w _, Nat.le_refl _, by unfold maxLen; omega, rfl, rfl⟩⟩
theorem cown_form {w : World} {B n : Nat} {e : TypeId} {v : Value} {xs : List Value} (h : w.ownsRow B e 1 v n xs) (hn : 0 < n) : ∃ g c, v = .slice (some ⟨g, 0, none⟩) n c ∧ B ≤ g ∧ g < w.heap.size := by
  obtain ⟨g, c, hv, h1, h2⟩ := h.form hn
  exact ⟨g, c, hv, h1, h2⟩
theorem cown_cell {w : World} {B g n c i : Nat} {e : TypeId} {xs : List Value} {u : Value} (h : w.ownsRow B e 1 (.slice (some ⟨g, 0, none⟩) n c) n xs) (hu : xs[i]? = some u) : w.cell? ⟨g, i, none⟩ = some u := by
  have := h.cells (g := g) rfl i _ hu
  rw [Addr.add_lit] at this
  simpa using this
/-- A list that a call owns is one that is read, in a block that is none of some. -/
theorem SlW.of_own {w : World} {B : Nat} {e : TypeId} {v : Value} {l : List Int} {ng : Nat → Prop} (h : w.ownsRow B e 1 v l.length (CW l)) (hn : ∀ b, B ≤ b → b < w.heap.size → ¬ ng b) : SlW w v l ng := by
  obtain ⟨A, c, hv⟩ := slice_form h
  refine ⟨A, c, hv, fun hp => ?_⟩
  obtain ⟨g, c', hv', h1, h2⟩ := cown_form h hp
  rw [hv] at hv'
  injection hv' with e1 e2 e3
  subst e1 e3 hv
  exact ⟨g, 0, rfl, hn g h1 h2, h2, fun i hi => by rw [Nat.zero_add]; exact cown_cell h (CW_at l i hi)⟩
set_option maxRecDepth 100000 in
set_option maxHeartbeats 8000000 in
theorem new_small (A A' : Option Addr) (n m c c' : Nat) (xs ys : List Int) (w : World) (h1 : Reads w w.heap.size 1 A n (CW xs)) (h2 : Reads w w.heap.size 1 A' m (CW ys)) (hn : n ≤ 60) (hm : m ≤ 60) (hc : n ≤ c) (hc' : m ≤ c') (hcm : c ≤ maxLen) (hcm' : c' ≤ maxLen) (hx : ∀ x ∈ xs, 0 ≤ x ∧ x < 4294967296) (hy : ∀ x ∈ ys, 0 ≤ x ∧ x < 4294967296) :
    Calls Tryd.prog 9 #[.slice A n c, .slice A' m c'] w fun e w' => ∃ gm, e = .returned (.pointer (some ⟨gm, 0, none⟩)) ∧ w.heap.size ≤ gm ∧ gm < w'.heap.size ∧ Below w.heap.size w w' ∧ ∀ ng : Nat → Prop, (∀ b, ng b → b < w.heap.size) → MM w' gm (.iface 31 (.pointer (some ⟨gm, 0, none⟩))) ⟨xs ++ ys, n, 0⟩ ng := by
  obtain ⟨i0, hinf, hz0, hz1, hz2⟩ := cinfo_of cu32_info
  have hxl : xs.length = n := by have := h1.1; rw [CW_len] at this; omega
  have hyl : ys.length = m := by have := h2.1; rw [CW_len] at this; omega
  unfold maxLen at hcm hcm'
  have H1 := Lib.hid h1
  have H2 := Lib.hid h2
  have HX := Lib.hid (And.intro hx hy)
  have HL := Lib.hid (And.intro hxl hyl)
  have hnI : (n : Int) ≤ 60 := by omega
  have hmI : (m : Int) ≤ 60 := by omega
  have hncI : (n : Int) ≤ c := by omega
  have hmcI : (m : Int) ≤ c' := by omega
  have hmin : min (n : Int) 60 = n := by omega
  have hmin' : min (m : Int) 60 = m := by omega
  clear h1 h2 hx hy hxl hyl
  go_enter Tryd.func9, Tryd.ntmps9
  go_wp2_with fail
  go_quiet (fail)
  generalize hW0 : w.drewN nq = W0
  have hsz : W0.heap.size = w.heap.size := by rw [← hW0]; rfl
  have hb0 : Below w.heap.size w W0 := by rw [← hW0]; exact below_drewN (Below.refl _ _) _
  have R1 : Hid (Reads (W0.alloc (.cells #[] 22)) W0.heap.size 1 A n (CW xs)) := by rw [hsz]; exact (H1.out.below hb0).alloc (by omega) _ |>.more (by omega)
  have R2 : Hid (Reads W0 W0.heap.size 1 A' m (CW ys)) := by rw [hsz]; exact H2.out.below hb0
  have HB0 := Lib.hid (And.intro hb0 hsz)
  clear hb0 hsz hW0 H1 H2
  go_wp2_with (at_builtin; refine wpList_append_any _ rfl (.tmp 15) (.tmp 16) _ rfl W0.heap.size 22 i0 (.int .u32 0) 1 4 Tryd.underlying29 hinf hz0 hz1 hz2 rfl (by decide) (.slice (some ⟨W0.heap.size, 0, none⟩) 0 0) 0 [] rfl (crow_empty 22 W0) W0.heap.size A n c (CW xs) rfl R1.out (CW_one _) ?c2 ?c3 ?c4 ?_)
  case c2 => unfold maxLen; omega
  case c3 => omega
  case c4 => simp
  intro v1 w2 hown hgr hbl
  have ho1 : w2.ownsRow W0.heap.size 22 1 v1 n (CW xs) := by simpa using hown
  have hb2 : Below W0.heap.size W0 w2 := ((Below.refl _ _).alloc (Nat.le_refl _) _).grown hgr (by simp) (fun q hq => by have h' : some W0.heap.size = some q := hq; injection h' with h'; omega)
  have R3 : Hid (Reads w2 W0.heap.size 1 A' m (CW ys)) := (R2.out.below hb2).keep fun p hp => rfl
  have HO1 := Lib.hid ho1
  have HB2 := Lib.hid hb2
  clear hown hgr hbl ho1 hb2 R1 R2
  go_wp2_with (at_builtin; refine wpList_append_any _ rfl (.tmp 17) (.tmp 18) _ rfl W0.heap.size 22 i0 (.int .u32 0) 1 4 Tryd.underlying29 hinf hz0 hz1 hz2 rfl (by decide) v1 n (CW xs) rfl HO1.out W0.heap.size A' m c' (CW ys) rfl R3.out (CW_one _) ?d2 ?d3 ?d4 ?_)
  case d2 => unfold maxLen; omega
  case d3 => omega
  case d4 => exact HB2.out.size
  intro v2 w3 hown hgr hbl
  have hb3 : Below W0.heap.size W0 w3 := HB2.out.grown hgr HB2.out.size (fun q hq => (HO1.out.lt q hq).1)
  have hlen : (xs ++ ys).length = n + m := by rw [List.length_append, HL.out.1, HL.out.2]
  have ho2 : w3.ownsRow W0.heap.size 22 1 v2 (xs ++ ys).length (CW (xs ++ ys)) := by rw [hlen]; simpa [CW] using hown
  obtain ⟨A2, c2, rfl⟩ := slice_form ho2
  rw [hlen] at ho2 hown ⊢
  have HO2 := Lib.hid ho2
  have HB3 := Lib.hid hb3
  have HLEN := Lib.hid hlen
  clear hown hgr hbl ho2 hb3 hlen R3 HO1 HB2
  obtain ⟨nm, hnm⟩ : ∃ nm, n + m = nm := ⟨_, rfl⟩
  rw [hnm] at HO2 HLEN ⊢
  have HNM : Hid (nm ≤ 120) := by unfold Hid; omega
  clear hnm
  have HX4 := Lib.hid (heap_alloc_new w3 (.cells #[.slice A2 nm c2, .int .i64 n, .int .i64 0] 43))
  go_wp2_with fail
  go_ret
  have hlt : W0.heap.size ≤ w3.heap.size := HB3.out.size
  refine ⟨w3.heap.size, rfl, by have := HB0.out.2; omega, by simp, HB0.out.1.trans ((HB3.out.alloc hlt _).mono (by have := HB0.out.2; omega)), fun ng hng => ?_⟩
  refine ⟨⟨_, rfl, HX4.out, fun h => by have := hng _ h; have := HB0.out.2; omega, ?_⟩, ?_, ?_, ?_, ?_⟩
  · have ho := HO2.out
    have hl' := HLEN.out
    rw [← hl'] at ho ⊢
    refine (SlW.of_own (ng := fun b => b = w3.heap.size ∨ ng b) ho (fun b h1 h2 h => ?_)).keep (by simp) (fun b hb _ => heap_alloc_old w3 _ hb) (fun _ _ h => h)
    rcases h with h | h
    · omega
    · have := hng _ h; have := HB0.out.2; omega
  · have := HLEN.out; have := HNM.out; dsimp only; omega
  · intro x hx
    rcases List.mem_append.1 hx with h | h
    · exact HX.out.1 x h
    · exact HX.out.2 x h
  · exact hn
  · dsimp only; omega
end Go.Proofs.YthmalhakkdjilaaDoor
