/-
  CpuStores: a step changes one word at most, and none that may not be stored; with an error none, and no register: for all registers and all lists of uint32s the law returns true, and the arguments read afterwards as they read before. Condition, tied to the program's text by the card: the table of the operations holds what its initialiser lays. No other condition: every input.
-/
import Derived.Test.YthmalhakkdjilaaDoorCq3
import Derived.Test.YthmalhakkdjilaaDoorCpU
import Derived.ProofKit
import Derived.OpenShut
import Derived.ShutString
import Derived.ChangeOld
import Derived.Lib.SmallJoins
import Derived.LaidMore
import Derived.Stop.Joined
import Derived.Lib.LaidTab
import Derived.SevenTiedAt
import Derived.Test.YthmalhakkdjilaaDoorCards
import Derived.Test.YthmalhakkdjilaaDoorTie
import Derived.Deep.Grids
import Derived.Deep.Matrix
namespace Go.Proofs.YthmalhakkdjilaaDoor.lawCpuStores
open Go.Proofs.YthmalhakkdjilaaDoor
open Go.ChangeShapes Go.WideShapes Go.ChangeAt Go.RowKit Go.Joins
open Go.ChangeMaps (open_string shut_string)
set_option linter.unusedVariables false

theorem own : ownKnob Tryd.prog.godebug = none := by kernel_rfl
theorem laidOut : laidOutB Tryd.prog = true := by kernel_rfl

theorem gOps : Tryd.prog.globalNamed "monocoque/isa.operations" = some 0 := by kernel_rfl
theorem tOps : (Tryd.prog.globals[0]?).map (·.type) = some 85 := by kernel_rfl
/-- The door's own heap meets the condition. -/
theorem door_met (os : Os) (args : Array Value) : laidMetH Tryd.prog [("monocoque/isa.operations", Rows.laid_monocoque_isa_operations)] ((World.doorLaid Tryd.prog 400 os).forCall (fun _ _ => 0) ⟨#[], args, []⟩).memory :=
  laidMetH_of_parts3 (fuel := 8) (laidMet_of_run' 8 (by kernel_rfl) (by kernel_rfl)) (by kernel_rfl) (by kernel_rfl)
/-- The table's data, one by one. -/
theorem row_of_table {H : Type} (i : Nat) (hi : i < 24) : ∃ s t, (match (Rows.laid_monocoque_isa_operations : DataW H) with | .agg l => l | _ => [])[i]? = some (.agg [.lit (.string s), .lit (.string t), .lit (.int .i64 (regsL.getD i 0)), .lit (.int .i64 (leastL.getD i 0)), .lit (.int .i64 (mostL.getD i 0)), .lit (.int .i64 (priceL.getD i 0))]) := by
  match i, hi with
  | 0, _ => exact ⟨_, _, rfl⟩
  | 1, _ => exact ⟨_, _, rfl⟩
  | 2, _ => exact ⟨_, _, rfl⟩
  | 3, _ => exact ⟨_, _, rfl⟩
  | 4, _ => exact ⟨_, _, rfl⟩
  | 5, _ => exact ⟨_, _, rfl⟩
  | 6, _ => exact ⟨_, _, rfl⟩
  | 7, _ => exact ⟨_, _, rfl⟩
  | 8, _ => exact ⟨_, _, rfl⟩
  | 9, _ => exact ⟨_, _, rfl⟩
  | 10, _ => exact ⟨_, _, rfl⟩
  | 11, _ => exact ⟨_, _, rfl⟩
  | 12, _ => exact ⟨_, _, rfl⟩
  | 13, _ => exact ⟨_, _, rfl⟩
  | 14, _ => exact ⟨_, _, rfl⟩
  | 15, _ => exact ⟨_, _, rfl⟩
  | 16, _ => exact ⟨_, _, rfl⟩
  | 17, _ => exact ⟨_, _, rfl⟩
  | 18, _ => exact ⟨_, _, rfl⟩
  | 19, _ => exact ⟨_, _, rfl⟩
  | 20, _ => exact ⟨_, _, rfl⟩
  | 21, _ => exact ⟨_, _, rfl⟩
  | 22, _ => exact ⟨_, _, rfl⟩
  | 23, _ => exact ⟨_, _, rfl⟩
  | n + 24, h => omega
theorem take_one_of {n : Nat} (h : n = 1) {L M : List Value} (c : List.take n L = M) : List.take 1 L = M := by rw [← h]; exact c
theorem ocell {cs : List Value} {o : Nat} {v : Value} (h : (cs.drop o).take 1 = [v]) : cs[o]? = some v := one_cell h
/-- What the condition gives the walk: the table's cells. -/
theorem of_laid {W : World} (h : laidMetH Tryd.prog [("monocoque/isa.operations", Rows.laid_monocoque_isa_operations)] W) : Laid W := by
  rw [MakeChecks.laidMetH_plain _ _ _ (by kernel_rfl)] at h
  obtain ⟨ps, ⟨g', t', cs, fuel, p, q, hg', ht', hvar, hd, _, _⟩, _⟩ := h
  obtain rfl := Option.some.inj (gOps.symm.trans hg')
  obtain rfl := Option.some.inj (tOps.symm.trans ht')
  obtain ⟨xs, m, _, hx, _, hxl, hel⟩ := DataW.trod_array Tryd.underlying85 hd
  have hxm : xs.map (·.1) = (match (Rows.laid_monocoque_isa_operations : DataW _) with | .agg l => l | _ => []) := by
    have := congrArg Prod.fst hx
    have h2 : (Rows.laid_monocoque_isa_operations : DataW _) = .agg (xs.map (·.1)) := this
    rw [h2]
  have co : Tryd.prog.cellsOf 84 = 6 := by kernel_rfl
  have cs1 : Tryd.prog.cellsOf 9 = 1 := by kernel_rfl
  have ci1 : Tryd.prog.cellsOf 3 = 1 := by kernel_rfl
  have hcell : ∀ (o : Nat) v, cs.toList[o]? = some v → W.cell? ⟨0, o, none⟩ = some v := by
    intro o v hv
    exact World.var?_cell gOps hvar o |>.trans (by simpa using hv)
  have key : ∀ i, i < 24 → ∃ s t, W.cell? ⟨0, i * 6, none⟩ = some (.string s) ∧ W.cell? ⟨0, i * 6 + 1, none⟩ = some (.string t) ∧ W.cell? ⟨0, i * 6 + 2, none⟩ = some (.int .i64 (regsL.getD i 0)) ∧
      W.cell? ⟨0, i * 6 + 3, none⟩ = some (.int .i64 (leastL.getD i 0)) ∧ W.cell? ⟨0, i * 6 + 4, none⟩ = some (.int .i64 (mostL.getD i 0)) ∧ W.cell? ⟨0, i * 6 + 5, none⟩ = some (.int .i64 (priceL.getD i 0)) := by
    intro i hi
    obtain ⟨y, hy⟩ : ∃ y, xs[i]? = some y := ⟨_, List.getElem?_eq_getElem (by omega)⟩
    have q := hel i hi
    rw [hy, co] at q
    obtain ⟨s0, t0, hdat⟩ := row_of_table (H := _) i hi
    have hy1 : y.1 = .agg [.lit (.string s0), .lit (.string t0), .lit (.int .i64 (regsL.getD i 0)), .lit (.int .i64 (leastL.getD i 0)), .lit (.int .i64 (mostL.getD i 0)), .lit (.int .i64 (priceL.getD i 0))] := by
      have h3 : (xs.map (·.1))[i]? = some y.1 := by rw [List.getElem?_map, hy]; rfl
      rw [hxm] at h3
      exact Option.some.inj (h3.symm.trans hdat)
    obtain ⟨us, k, _, hu, _, hul, hf⟩ := DataW.trod_struct Tryd.underlying84 q
    have hum : us.map (·.1) = [.lit (.string s0), .lit (.string t0), .lit (.int .i64 (regsL.getD i 0)), .lit (.int .i64 (leastL.getD i 0)), .lit (.int .i64 (mostL.getD i 0)), .lit (.int .i64 (priceL.getD i 0))] := by
      have := congrArg Prod.fst hu
      rw [hy1] at this
      injection this with this
      exact this.symm
    have gu : ∀ j, j < 6 → ∃ z, us[j]? = some z := fun j hj => ⟨_, List.getElem?_eq_getElem (by rw [hul]; exact hj)⟩
    obtain ⟨u0, v0⟩ := gu 0 (by omega)
    have s0 := hf 0 _ rfl
    rw [v0] at s0
    have w0 : u0.1 = _ := Option.some.inj ((by rw [List.getElem?_map, v0]; rfl : (us.map (·.1))[0]? = some u0.1).symm.trans (by rw [hum]; rfl))
    obtain ⟨u1, v1⟩ := gu 1 (by omega)
    have s1 := hf 1 _ rfl
    rw [v1] at s1
    have w1 : u1.1 = _ := Option.some.inj ((by rw [List.getElem?_map, v1]; rfl : (us.map (·.1))[1]? = some u1.1).symm.trans (by rw [hum]; rfl))
    obtain ⟨u2, v2⟩ := gu 2 (by omega)
    have s2 := hf 2 _ rfl
    rw [v2] at s2
    have w2 : u2.1 = _ := Option.some.inj ((by rw [List.getElem?_map, v2]; rfl : (us.map (·.1))[2]? = some u2.1).symm.trans (by rw [hum]; rfl))
    obtain ⟨u3, v3⟩ := gu 3 (by omega)
    have s3 := hf 3 _ rfl
    rw [v3] at s3
    have w3 : u3.1 = _ := Option.some.inj ((by rw [List.getElem?_map, v3]; rfl : (us.map (·.1))[3]? = some u3.1).symm.trans (by rw [hum]; rfl))
    obtain ⟨u4, v4⟩ := gu 4 (by omega)
    have s4 := hf 4 _ rfl
    rw [v4] at s4
    have w4 : u4.1 = _ := Option.some.inj ((by rw [List.getElem?_map, v4]; rfl : (us.map (·.1))[4]? = some u4.1).symm.trans (by rw [hum]; rfl))
    obtain ⟨u5, v5⟩ := gu 5 (by omega)
    have s5 := hf 5 _ rfl
    rw [v5] at s5
    have w5 : u5.1 = _ := Option.some.inj ((by rw [List.getElem?_map, v5]; rfl : (us.map (·.1))[5]? = some u5.1).symm.trans (by rw [hum]; rfl))
    obtain ⟨b0, c0, _, _⟩ := DataW.trod_string Tryd.underlying9 s0
    replace c0 : List.take 1 (List.drop 0 (List.take 6 (List.drop (i * 6) cs.toList))) = [.string b0] := take_one_of cs1 c0
    rw [cut_cut (by omega)] at c0
    obtain ⟨b1, c1, _, _⟩ := DataW.trod_string Tryd.underlying9 s1
    replace c1 : List.take 1 (List.drop 1 (List.take 6 (List.drop (i * 6) cs.toList))) = [.string b1] := take_one_of cs1 c1
    rw [cut_cut (by omega)] at c1
    obtain ⟨b2, c2, d2, _⟩ := DataW.trod_int Tryd.underlying3 s2
    replace c2 : List.take 1 (List.drop 2 (List.take 6 (List.drop (i * 6) cs.toList))) = [.int .i64 b2] := take_one_of ci1 c2
    rw [cut_cut (by omega)] at c2
    rw [d2] at w2
    injection w2 with w2
    injection w2 with _ w2
    subst w2
    obtain ⟨b3, c3, d3, _⟩ := DataW.trod_int Tryd.underlying3 s3
    replace c3 : List.take 1 (List.drop 3 (List.take 6 (List.drop (i * 6) cs.toList))) = [.int .i64 b3] := take_one_of ci1 c3
    rw [cut_cut (by omega)] at c3
    rw [d3] at w3
    injection w3 with w3
    injection w3 with _ w3
    subst w3
    obtain ⟨b4, c4, d4, _⟩ := DataW.trod_int Tryd.underlying3 s4
    replace c4 : List.take 1 (List.drop 4 (List.take 6 (List.drop (i * 6) cs.toList))) = [.int .i64 b4] := take_one_of ci1 c4
    rw [cut_cut (by omega)] at c4
    rw [d4] at w4
    injection w4 with w4
    injection w4 with _ w4
    subst w4
    obtain ⟨b5, c5, d5, _⟩ := DataW.trod_int Tryd.underlying3 s5
    replace c5 : List.take 1 (List.drop 5 (List.take 6 (List.drop (i * 6) cs.toList))) = [.int .i64 b5] := take_one_of ci1 c5
    rw [cut_cut (by omega)] at c5
    rw [d5] at w5
    injection w5 with w5
    injection w5 with _ w5
    subst w5
    exact ⟨b0, b1, hcell _ _ (one_cell c0), hcell _ _ (one_cell c1), hcell _ _ (one_cell c2), hcell _ _ (one_cell c3), hcell _ _ (one_cell c4), hcell _ _ (one_cell c5)⟩
  obtain ⟨_, _, h0, _⟩ := key 0 (by omega)
  exact ⟨World.block_lt_of_cell? _ _ h0, key⟩

set_option maxRecDepth 100000 in
theorem lifted (os : Os) (started : os.Started) (H : Type) (enc : TypeId × Value → H) :
    ReturnsInHanded {} Tryd.checked os 4 .any (fun w args => (Rows.cpuStoresSpec.pre enc Tryd.prog Tryd.f4 [] false w args ∧ laidMetH Tryd.prog [("monocoque/isa.operations", Rows.laid_monocoque_isa_operations)] w) ∧ sizedMet enc Tryd.prog Tryd.f4 (OpenSpec.ofChange Rows.cpuStoresSpec) false w args)
      (Rows.cpuStoresSpec.post enc Tryd.prog Tryd.f4 false true false false) := by
  refine returnsInHanded_of_change_and (C := Tryd.checked) (X := fun w _ => laidMetH Tryd.prog [("monocoque/isa.operations", Rows.laid_monocoque_isa_operations)] w) (fun _ _ _ hh h => h.of_heap hh) own started (by kernel_rfl) Tryd.func4
    (ChangeSpec.witness_shaped (enc := enc) (C := Tryd.checked) (os := os) (X := fun w _ => laidMetH Tryd.prog [("monocoque/isa.operations", Rows.laid_monocoque_isa_operations)] w) false (World.doorLaid Tryd.prog 400 os) #[.agg #[.int .u32 0, .int .u32 0, .int .u32 0, .int .u32 0, .int .u32 0, .int .u32 0, .int .u32 0, .int .u32 0, .int .u32 0, .int .u32 0, .int .u32 0, .int .u32 0, .int .u32 0, .int .u32 0, .int .u32 0, .int .u32 0, .int .u32 0, .int .u32 0, .int .u32 0, .int .u32 0, .int .u32 0, .int .u32 0, .int .i64 0, .int .u32 0, .int .u32 0, .int .i64 0, .int .u32 0, .int .u32 0, .int .i64 0, .int .u32 0, .int .u32 0, .int .i64 0, .int .u32 0, .int .u32 0, .int .i64 0, .int .u32 0, .int .u32 0, .int .i64 0, .int .u32 0, .int .u32 0, .int .i64 0, .int .u32 0, .int .u32 0, .int .i64 0, .int .i64 0], .slice none 0 0, .slice none 0 0] 8 rfl (World.shaped_of_RefB (by kernel_rfl) (by kernel_rfl)) (by kernel_rfl) (by kernel_rfl) (by kernel_rfl) (door_met os _)) ?_
  intro W base args ds gs before hval0 hW hcnd hsz hL0 _
  have hL := of_laid hL0
  have hval : ∀ (j : Nat) t v, Tryd.f4.params[j]? = some t → args[j]? = some v → Value.okWide Tryd.prog W .any base t v := hval0
  have hW' := hW
  obtain ⟨p, q, hA0, hV, rfl, hfz, hnd⟩ := hW
  have hA : DataW.TrodAll enc Tryd.prog W 0 (fun _ => true) true Tryd.f4.params.toList args.toList ds p := hA0
  rw [Tryd.params4] at hA hval
  obtain ⟨v0, vs0, d0, ds0, p0, q0, hargs, rfl, rfl, h0, r0⟩ := trodAll_cons hA
  obtain ⟨v1, vs1, d1, ds1, p1, q1, rfl, rfl, rfl, h1, r1⟩ := trodAll_cons r0
  obtain ⟨v2, vs2, d2, ds2, p2, q2, rfl, rfl, rfl, h2, r2⟩ := trodAll_cons r1
  obtain ⟨rfl, rfl, rfl⟩ := trodAll_nil r2
  obtain rfl : args = #[v0, v1, v2] := by cases args; simp_all
  obtain ⟨rfl, rfl⟩ := trodVars_none hV
  have k0 := h0
  have lt0 : ∀ x ∈ p0, x.block < W.heap.size := by obtain ⟨m, hm⟩ := k0; exact DataW.trod_lt m _ _ _ hm
  obtain ⟨rg0, rfl, w0⟩ : ∃ r, v0 = .agg (cells r).toArray ∧ RegOk r := by
    obtain ⟨cs, e, hl⟩ := okWide_struct Tryd.underlying28 (hval 0 28 v0 rfl rfl)
    obtain ⟨fuel, hf⟩ := h0
    rw [e] at hf
    obtain ⟨r, hr, hc⟩ := open_regs (cs := cs.toList) (by simpa [Value.cells] using hf) (by rw [Array.length_toList]; exact hl.trans (by kernel_rfl))
    exact ⟨r, by rw [e, ← hc], hr⟩
  have k1 := h1
  have lt1 : ∀ x ∈ p1, x.block < W.heap.size := by obtain ⟨m, hm⟩ := k1; exact DataW.trod_lt m _ _ _ hm
  obtain ⟨a1, len1, cap1, rfl⟩ := okWide_slice Tryd.underlying29 (hval 1 29 v1 rfl rfl)
  obtain ⟨z1, w1⟩ : ∃ zs, IsRow .u32 W a1 len1 cap1 zs := by
    obtain ⟨fuel, hf⟩ := h1
    rcases open_ints Tryd.underlying29 Tryd.underlying22 (by kernel_rfl) hf with ⟨hcs, _⟩ | ⟨x, l, c, zs, hcs, _, hl, hm, hz, _, hcell, hwz⟩
    · simp [Value.cells] at hcs
      obtain ⟨rfl, rfl, rfl⟩ := hcs
      exact ⟨[], .inl ⟨rfl, rfl, rfl, rfl⟩⟩
    · simp [Value.cells] at hcs
      obtain ⟨rfl, rfl, rfl⟩ := hcs
      exact ⟨zs, .inr ⟨_, rfl, hl, hm, by simpa using hz, hcell, hwz⟩⟩
  have k2 := h2
  have lt2 : ∀ x ∈ p2, x.block < W.heap.size := by obtain ⟨m, hm⟩ := k2; exact DataW.trod_lt m _ _ _ hm
  obtain ⟨a2, len2, cap2, rfl⟩ := okWide_slice Tryd.underlying29 (hval 2 29 v2 rfl rfl)
  obtain ⟨z2, w2⟩ : ∃ zs, IsRow .u32 W a2 len2 cap2 zs := by
    obtain ⟨fuel, hf⟩ := h2
    rcases open_ints Tryd.underlying29 Tryd.underlying22 (by kernel_rfl) hf with ⟨hcs, _⟩ | ⟨x, l, c, zs, hcs, _, hl, hm, hz, _, hcell, hwz⟩
    · simp [Value.cells] at hcs
      obtain ⟨rfl, rfl, rfl⟩ := hcs
      exact ⟨[], .inl ⟨rfl, rfl, rfl, rfl⟩⟩
    · simp [Value.cells] at hcs
      obtain ⟨rfl, rfl, rfl⟩ := hcs
      exact ⟨zs, .inr ⟨_, rfl, hl, hm, by simpa using hz, hcell, hwz⟩⟩
  clear hA0 hval0
  refine (stores_walk rg0 a1 a2 len1 cap1 len2 cap2 z1 z2 W w0 w1 w2 hL).mono fun e W' ⟨he, bel⟩ => ?_
  subst he
  exact ⟨_, rfl, _, _, _, [], _, [], hW', trodAll_mk1 (shut_bool Tryd.underlying4 _), (trodAll_cons_mk (Below.trod laidOut (by kernel_rfl) (of_decide_eq_true (by kernel_rfl)) k0 bel lt0) (trodAll_cons_mk (Below.trod laidOut (by kernel_rfl) (of_decide_eq_true (by kernel_rfl)) k1 bel lt1) (trodAll_cons_mk (Below.trod laidOut (by kernel_rfl) (of_decide_eq_true (by kernel_rfl)) k2 bel lt2) trodAll_mk0))), rfl, bel.frame _, fun h => by cases h⟩

theorem row_proved : Rows.CpuStoresSaid :=
  OpenClaim.holds_of_wide 4 Tryd.f4 rfl rfl rfl rfl rfl rfl rfl ⟨rfl, rfl, rfl, rfl, rfl⟩ rfl rfl rfl rfl rfl (by kernel_rfl) Tryd.func4 (by kernel_rfl)
    (of_decide_eq_true (by kernel_rfl)) (by unfold Func.isWrapper; first | (rw [if_pos (by decide +kernel)]; kernel_rfl) | (rw [if_neg (by decide +kernel)]; exact ⟨rfl, rfl⟩))
    (fun os started H enc _ => lifted os started H enc)

/-- The statement: the tied card. -/
theorem proved : Rows.CpuStoresCardSaid :=
  Claim7.holds_tied_plain_at .later [] [.data] true (true, "e22a8d1eb674cddcd1ccd1a099b76ee7ee609ce0e594c1956efbfa425255d1bc") false
    row_proved (fun _ h => by cases h) (by kernel_rfl) (fun _ h => by cases h) cpuStores_row_tie rfl ⟨rfl, rfl⟩ (by kernel_rfl) rfl
    (fun f fn hf hfn => by
      obtain rfl : f = 4 := Option.some.inj ((show Tryd.prog.funcNamed "monocoque/monocoquelaw15.CpuStores" = some 4 by kernel_rfl).symm.trans hf) |>.symm
      obtain rfl : fn = Tryd.f4 := (Option.some.inj (Tryd.func4.symm.trans hfn)).symm
      exact ⟨by kernel_rfl, fun j t ht => by
        rw [Tryd.params4] at ht
        have hm : t ∈ [28, 29, 29] := by simpa using Array.mem_of_getElem? ht
        have hall : ([28, 29, 29].all fun u => !Tryd.prog.wantsStandIn u) = true := by kernel_rfl
        exact (show Tryd.prog.wantsStandIn t = false by simpa using List.all_eq_true.1 hall t hm)⟩)
    (by kernel_rfl)
#print axioms proved
end Go.Proofs.YthmalhakkdjilaaDoor.lawCpuStores
