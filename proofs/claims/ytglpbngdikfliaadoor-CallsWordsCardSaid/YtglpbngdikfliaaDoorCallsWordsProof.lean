/-
  CallsWords: each call has a word of its own, whose number it is, and a greatest price: for every int and every text the law returns true, and the arguments read afterwards as they read before. Condition, tied to the program's text by the card: the table of the calls holds what its initialiser lays. No other condition: every input.
-/
import Derived.Test.YtglpbngdikfliaaDoorCallsWordsLaw
import Derived.Test.YtglpbngdikfliaaDoorCaO
import Derived.ProofKit
import Derived.OpenShut
import Derived.ShutString
import Derived.ChangeOld
import Derived.Lib.SmallJoins
import Derived.LaidMore
import Derived.Stop.Joined
import Derived.Lib.LaidTab
import Derived.SevenTiedAt
import Derived.Test.YtglpbngdikfliaaDoorCards
import Derived.Test.YtglpbngdikfliaaDoorTie
import Derived.Deep.Grids
import Derived.Deep.Matrix
namespace Go.Proofs.YtglpbngdikfliaaDoor.lawCallsWords
open Go.Proofs.YtglpbngdikfliaaDoor Go.Proofs.YtglpbngdikfliaaDoor.Ca
open Go.ChangeShapes Go.WideShapes Go.ChangeAt Go.RowKit Go.Joins
open Go.ChangeMaps (open_string shut_string)
set_option linter.unusedVariables false

theorem own : ownKnob Tryd.prog.godebug = none := by kernel_rfl
theorem laidOut : laidOutB Tryd.prog = true := by kernel_rfl

theorem gOps : Tryd.prog.globalNamed "monocoque/calls.properties" = some 0 := by kernel_rfl
theorem tOps : (Tryd.prog.globals[0]?).map (·.type) = some 62 := by kernel_rfl
/-- The door's own heap meets the condition. -/
theorem door_met (os : Os) (args : Array Value) : laidMetH Tryd.prog [("monocoque/calls.properties", Rows.laid_monocoque_calls_properties)] ((World.doorLaid Tryd.prog 400 os).forCall (fun _ _ => 0) ⟨#[], args, []⟩).memory :=
  laidMetH_of_parts3 (fuel := 8) (laidMet_of_run' 8 (by kernel_rfl) (by kernel_rfl)) (by kernel_rfl) (by kernel_rfl)
/-- The table's data, one by one. -/
theorem row_of_table {H : Type} (i : Nat) (hi : i < 28) : (match (Rows.laid_monocoque_calls_properties : DataW H) with | .agg l => l | _ => [])[i]? = some (.agg [.lit (.string (byteL.getD i #[]).toList), .lit (.int .i64 (fieldL.getD i 0)), .lit (.int .i64 (priceL.getD i 0))]) := by
  match i, hi with
  | 0, _ => exact rfl
  | 1, _ => exact rfl
  | 2, _ => exact rfl
  | 3, _ => exact rfl
  | 4, _ => exact rfl
  | 5, _ => exact rfl
  | 6, _ => exact rfl
  | 7, _ => exact rfl
  | 8, _ => exact rfl
  | 9, _ => exact rfl
  | 10, _ => exact rfl
  | 11, _ => exact rfl
  | 12, _ => exact rfl
  | 13, _ => exact rfl
  | 14, _ => exact rfl
  | 15, _ => exact rfl
  | 16, _ => exact rfl
  | 17, _ => exact rfl
  | 18, _ => exact rfl
  | 19, _ => exact rfl
  | 20, _ => exact rfl
  | 21, _ => exact rfl
  | 22, _ => exact rfl
  | 23, _ => exact rfl
  | 24, _ => exact rfl
  | 25, _ => exact rfl
  | 26, _ => exact rfl
  | 27, _ => exact rfl
  | n + 28, h => omega
theorem take_one_of {n : Nat} (h : n = 1) {L M : List Value} (c : List.take n L = M) : List.take 1 L = M := by rw [← h]; exact c
/-- What the condition gives the walk: the table's cells. -/
theorem of_laid {W : World} (h : laidMetH Tryd.prog [("monocoque/calls.properties", Rows.laid_monocoque_calls_properties)] W) : Laid W := by
  rw [MakeChecks.laidMetH_plain _ _ _ (by kernel_rfl)] at h
  obtain ⟨ps, ⟨g', t', cs, fuel, p, q, hg', ht', hvar, hd, _, _⟩, _⟩ := h
  obtain rfl := Option.some.inj (gOps.symm.trans hg')
  obtain rfl := Option.some.inj (tOps.symm.trans ht')
  obtain ⟨xs, m, _, hx, _, hxl, hel⟩ := DataW.trod_array Tryd.underlying62 hd
  have hxm : xs.map (·.1) = (match (Rows.laid_monocoque_calls_properties : DataW _) with | .agg l => l | _ => []) := by
    have := congrArg Prod.fst hx
    have h2 : (Rows.laid_monocoque_calls_properties : DataW _) = .agg (xs.map (·.1)) := this
    rw [h2]
  have co : Tryd.prog.cellsOf 61 = 3 := by kernel_rfl
  have cs1 : Tryd.prog.cellsOf 9 = 1 := by kernel_rfl
  have ci1 : Tryd.prog.cellsOf 3 = 1 := by kernel_rfl
  have hcell : ∀ (o : Nat) v, cs.toList[o]? = some v → W.cell? ⟨0, o, none⟩ = some v := by
    intro o v hv
    exact World.var?_cell gOps hvar o |>.trans (by simpa using hv)
  have key : ∀ i, i < 28 → W.cell? ⟨0, i * 3, none⟩ = some (wordV i) ∧ W.cell? ⟨0, i * 3 + 1, none⟩ = some (.int .i64 (fieldL.getD i 0)) ∧ W.cell? ⟨0, i * 3 + 2, none⟩ = some (.int .i64 (priceL.getD i 0)) := by
    intro i hi
    obtain ⟨y, hy⟩ : ∃ y, xs[i]? = some y := ⟨_, List.getElem?_eq_getElem (by omega)⟩
    have q := hel i hi
    rw [hy, co] at q
    have hy1 : y.1 = .agg [.lit (.string (byteL.getD i #[]).toList), .lit (.int .i64 (fieldL.getD i 0)), .lit (.int .i64 (priceL.getD i 0))] := by
      have h3 : (xs.map (·.1))[i]? = some y.1 := by rw [List.getElem?_map, hy]; rfl
      rw [hxm] at h3
      exact Option.some.inj (h3.symm.trans (row_of_table i hi))
    obtain ⟨us, k, _, hu, _, hul, hf⟩ := DataW.trod_struct Tryd.underlying61 q
    have hum : us.map (·.1) = [.lit (.string (byteL.getD i #[]).toList), .lit (.int .i64 (fieldL.getD i 0)), .lit (.int .i64 (priceL.getD i 0))] := by
      have := congrArg Prod.fst hu
      rw [hy1] at this
      injection this with this
      exact this.symm
    have gu : ∀ j, j < 3 → ∃ z, us[j]? = some z := fun j hj => ⟨_, List.getElem?_eq_getElem (by rw [hul]; exact hj)⟩
    obtain ⟨u0, v0⟩ := gu 0 (by omega)
    have s0 := hf 0 _ rfl
    rw [v0] at s0
    have w0 : u0.1 = _ := Option.some.inj ((by rw [List.getElem?_map, v0]; rfl : (us.map (·.1))[0]? = some u0.1).symm.trans (by rw [hum]; rfl))
    obtain ⟨u1, v1⟩ := gu 1 (by omega)
    have s1 := hf 1 _ rfl
    rw [v1] at s1
    have w1 : u1.1 = _ := Option.some.inj ((by rw [List.getElem?_map, v1]; rfl : (us.map (·.1))[1]? = some u1.1).symm.trans (by rw [hum]; rfl))
    obtain ⟨u2, v2⟩ := gu 2 (by omega)
    have s2 := hf 2 _ rfl
    rw [v2] at s2
    have w2 : u2.1 = _ := Option.some.inj ((by rw [List.getElem?_map, v2]; rfl : (us.map (·.1))[2]? = some u2.1).symm.trans (by rw [hum]; rfl))
    obtain ⟨b0, c0, d0, _⟩ := DataW.trod_string Tryd.underlying9 s0
    replace c0 : List.take 1 (List.drop 0 (List.take 3 (List.drop (i * 3) cs.toList))) = [.string b0] := take_one_of cs1 c0
    rw [cut_cut (by omega)] at c0
    rw [d0] at w0
    injection w0 with w0
    injection w0 with w0
    have e0 : Value.string b0 = wordV i := by
      unfold wordV
      congr 1
      obtain ⟨b⟩ := b0
      congr 1
      have : b.toList = (byteL.getD i #[]).toList := w0
      exact Array.toList_inj.1 this
    obtain ⟨b1, c1, d1, _⟩ := DataW.trod_int Tryd.underlying3 s1
    replace c1 : List.take 1 (List.drop 1 (List.take 3 (List.drop (i * 3) cs.toList))) = [.int .i64 b1] := take_one_of ci1 c1
    rw [cut_cut (by omega)] at c1
    rw [d1] at w1
    injection w1 with w1
    injection w1 with _ w1
    subst w1
    obtain ⟨b2, c2, d2, _⟩ := DataW.trod_int Tryd.underlying3 s2
    replace c2 : List.take 1 (List.drop 2 (List.take 3 (List.drop (i * 3) cs.toList))) = [.int .i64 b2] := take_one_of ci1 c2
    rw [cut_cut (by omega)] at c2
    rw [d2] at w2
    injection w2 with w2
    injection w2 with _ w2
    subst w2
    exact ⟨e0 ▸ hcell _ _ (one_cell c0), hcell _ _ (one_cell c1), hcell _ _ (one_cell c2)⟩
  obtain ⟨h0, _⟩ := key 0 (by omega)
  exact ⟨World.block_lt_of_cell? _ _ h0, key⟩

set_option maxRecDepth 100000 in
theorem lifted (os : Os) (started : os.Started) (H : Type) (enc : TypeId × Value → H) :
    ReturnsInHanded {} Tryd.checked os 6 .any (fun w args => (Rows.callsWordsSpec.pre enc Tryd.prog Tryd.f6 [] false w args ∧ laidMetH Tryd.prog [("monocoque/calls.properties", Rows.laid_monocoque_calls_properties)] w) ∧ sizedMet enc Tryd.prog Tryd.f6 (OpenSpec.ofChange Rows.callsWordsSpec) false w args)
      (Rows.callsWordsSpec.post enc Tryd.prog Tryd.f6 false true false false) := by
  refine returnsInHanded_of_change_and (C := Tryd.checked) (X := fun w _ => laidMetH Tryd.prog [("monocoque/calls.properties", Rows.laid_monocoque_calls_properties)] w) (fun _ _ _ hh h => h.of_heap hh) own started (by kernel_rfl) Tryd.func6
    (ChangeSpec.witness_shaped (enc := enc) (C := Tryd.checked) (os := os) (X := fun w _ => laidMetH Tryd.prog [("monocoque/calls.properties", Rows.laid_monocoque_calls_properties)] w) false (World.doorLaid Tryd.prog 400 os) #[.int .i64 0, .string ⟨#[]⟩] 8 rfl (World.shaped_of_RefB (by kernel_rfl) (by kernel_rfl)) (by kernel_rfl) (by kernel_rfl) (by kernel_rfl) (door_met os _)) ?_
  intro W base args ds gs before hval0 hW hcnd hsz hL0 _
  have hL := of_laid hL0
  have hval : ∀ (j : Nat) t v, Tryd.f6.params[j]? = some t → args[j]? = some v → Value.okWide Tryd.prog W .any base t v := hval0
  have hW' := hW
  obtain ⟨p, q, hA0, hV, rfl, hfz, hnd⟩ := hW
  have hA : DataW.TrodAll enc Tryd.prog W 0 (fun _ => true) true Tryd.f6.params.toList args.toList ds p := hA0
  rw [Tryd.params6] at hA hval
  obtain ⟨v0, vs0, d0, ds0, p0, q0, hargs, rfl, rfl, h0, r0⟩ := trodAll_cons hA
  obtain ⟨v1, vs1, d1, ds1, p1, q1, rfl, rfl, rfl, h1, r1⟩ := trodAll_cons r0
  obtain ⟨rfl, rfl, rfl⟩ := trodAll_nil r1
  obtain rfl : args = #[v0, v1] := by cases args; simp_all
  obtain ⟨rfl, rfl⟩ := trodVars_none hV
  have k0 := h0
  have lt0 : ∀ x ∈ p0, x.block < W.heap.size := by obtain ⟨m, hm⟩ := k0; exact DataW.trod_lt m _ _ _ hm
  obtain ⟨a0, rfl, rfl, rfl, w0⟩ := open_int Tryd.underlying3 (hval 0 3 v0 rfl rfl) h0
  have k1 := h1
  have lt1 : ∀ x ∈ p1, x.block < W.heap.size := by obtain ⟨m, hm⟩ := k1; exact DataW.trod_lt m _ _ _ hm
  obtain ⟨s1, rfl, rfl, rfl, w1⟩ := open_string Tryd.underlying9 (hval 1 9 v1 rfl rfl) h1
  clear hA0 hval0
  refine (words_walk a0 s1 W w1 hL).mono fun e W' ⟨he, bel⟩ => ?_
  subst he
  exact ⟨_, rfl, _, _, _, [], _, [], hW', trodAll_mk1 (shut_bool Tryd.underlying4 _), (trodAll_cons_mk (shut_int Tryd.underlying3 w0) (trodAll_cons_mk (shut_string Tryd.underlying9 w1) trodAll_mk0)), rfl, bel.frame _, fun h => by cases h⟩

theorem row_proved : Rows.CallsWordsSaid :=
  OpenClaim.holds_of_wide 6 Tryd.f6 rfl rfl rfl rfl rfl rfl rfl ⟨rfl, rfl, rfl, rfl, rfl⟩ rfl rfl rfl rfl rfl (by kernel_rfl) Tryd.func6 (by kernel_rfl)
    (of_decide_eq_true (by kernel_rfl)) (by unfold Func.isWrapper; first | (rw [if_pos (by decide +kernel)]; kernel_rfl) | (rw [if_neg (by decide +kernel)]; exact ⟨rfl, rfl⟩))
    (fun os started H enc _ => lifted os started H enc)

/-- The statement: the tied card. -/
theorem proved : Rows.CallsWordsCardSaid :=
  Claim7.holds_tied_plain_at .later [] [.data] true (true, "89db3b3e7e6e679d7cf6740281aaf808430a5031006d547fa1ee94939c994eb1") false
    row_proved (fun _ h => by cases h) (by kernel_rfl) (fun _ h => by cases h) callsWords_row_tie rfl ⟨rfl, rfl⟩ (by kernel_rfl) rfl
    (fun f fn hf hfn => by
      obtain rfl : f = 6 := Option.some.inj ((show Tryd.prog.funcNamed "monocoque/monocoquelaw33.CallsWords" = some 6 by kernel_rfl).symm.trans hf) |>.symm
      obtain rfl : fn = Tryd.f6 := (Option.some.inj (Tryd.func6.symm.trans hfn)).symm
      exact ⟨by kernel_rfl, fun j t ht => by
        rw [Tryd.params6] at ht
        have hm : t ∈ [3, 9] := by simpa using Array.mem_of_getElem? ht
        have hall : ([3, 9].all fun u => !Tryd.prog.wantsStandIn u) = true := by kernel_rfl
        exact (show Tryd.prog.wantsStandIn t = false by simpa using List.all_eq_true.1 hall t hm)⟩)
    (by kernel_rfl)
#print axioms proved
end Go.Proofs.YtglpbngdikfliaaDoor.lawCallsWords
