/-
  What the rules say; a monitor is made. Each statement bears its own conditions.
-/
import Derived.Test.YthnlkfcfiieddaaHlB
namespace Go.Proofs.Ythnlkfcfiieddaa.Hl
open Go.RowKit Go.Proofs.Ythnlkfcfiieddaa.F 
set_option linter.unusedVariables false
set_option linter.unusedSimpArgs false
theorem results_cell_one {P : Program} {fn : Func} {p : Tmp} {ty : TypeId} (h : fn.results = #[.cell p ty]) (tmps : Array Value) (w : World) (g : Nat) (cs : List Value) (d : TypeDesc)
    (hp : tmps.getD p undef = .pointer (some ⟨g, 0, none⟩)) (hc : w.rangeAt g 0 cs)
    (hu : P.underlying ty = some d) (hd : d.isRow = true) (hi : (P.info? ty).map (·.size) = some cs.length) :
    (results fn tmps).run P w = .ok (.agg cs.toArray) w := by
  have hp' : tmps[p]?.getD undef = .pointer (some ⟨g, 0, none⟩) := by simpa using hp
  simp [results, h, hp', asAddr, run_loadVar_mid w g 0 ty cs d hc hu hd hi]
theorem set_two {w : World} {g : Nat} {c0 c1 : Value} {t : TypeId} (h : w.heap[g]? = some (.cells #[c0, c1] t (0, 0))) (a b : Value) : ((w.setCell ⟨g, 0, none⟩ a).setCell ⟨g, 1, none⟩ b).rangeAt g 0 [a, b] := by
  have h1 := set_at (set_at h 0 a) 1 b
  intro j v hv
  rw [Nat.zero_add, (row_cell h1 j).1]
  simpa using hv
/-- What the first rule of an error at one of these levels says. -/
def findV (R : List ((Int × Int) × Int)) (e : Int) (o : Int × Int) : List Int → Int × Int
  | [] => o
  | l :: r => match getL R e l with
    | some d => (l, d)
    | none => findV R e o r
structure FR (n : Nat) (lv : List Int) (R : List ((Int × Int) × Int)) (e : Int) (o : Int × Int) (w0 : World) (iv : Value) (wr : World) : Prop where
  ex : ∃ j : Nat, j ≤ n ∧ iv = .int .i64 (j : Int) ∧ findV R e o (lv.drop j) = findV R e o lv ∧ wr = w0
set_option maxRecDepth 100000 in
set_option maxHeartbeats 16000000 in
theorem find_any (g rb cb : Nat) (mo : Bool) (R C : List ((Int × Int) × Int)) (e l0 d0 : Int) (b off n : Nat) (lv : List Int) (w : World) (h : MV w g rb cb mo R C) (hn : lv.length = n) (hn4 : n ≤ 4) (hb : b < w.heap.size) (hc : ∀ i x, lv[i]? = some x → w.cell? ⟨b, off + i, none⟩ = some (.int .i64 x)) :
    Calls Try.prog 28 #[.pointer (some ⟨g, 0, none⟩), .int .i64 e, .agg #[.int .i64 l0, .int .i64 d0], .slice (some ⟨b, off, none⟩) n n] w fun r w' => r = .returned (.agg #[.int .i64 (findV R e (l0, d0) lv).1, .int .i64 (findV R e (l0, d0) lv).2]) ∧ Below w.heap.size w w' := by
  obtain ⟨X, hX⟩ : ∃ X, w.heap.size = X := ⟨_, rfl⟩
  obtain ⟨W0, hW0⟩ : ∃ W0, (w.alloc (.cells #[.int .i64 l0, .int .i64 d0] 40)).alloc (.cells #[.int .i64 0, .int .i64 0] 40) = W0 := ⟨_, rfl⟩
  have B0 : Hid (Below X w W0) := by rw [← hW0, ← hX]; exact (((Below.refl _ _).alloc (Nat.le_refl _) _).alloc (by simp) _)
  have HX0 : Hid (W0.heap[X]? = some (.cells #[.int .i64 l0, .int .i64 d0] 40 (0, 0))) := by
    rw [← hW0, ← hX]; exact (((Below.refl _ _).alloc (Nat.le_refl _) _).block _ (by simp)).trans (heap_alloc_new _ _)
  have HY0 : Hid (W0.heap[X + 1]? = some (.cells #[.int .i64 0, .int .i64 0] 40 (0, 0))) := by
    rw [← hW0, ← hX]; have := heap_alloc_new (w.alloc (.cells #[.int .i64 l0, .int .i64 d0] 40)) (.cells #[.int .i64 0, .int .i64 0] 40); unfold Hid; simpa using this
  have x0 : W0.cell? ⟨X, 0, none⟩ = some (.int .i64 l0) := by rw [(row_cell HX0.out 0).1]; rfl
  have x1 : W0.cell? ⟨X, 1, none⟩ = some (.int .i64 d0) := by rw [(row_cell HX0.out 1).1]; rfl
  have y0 : W0.cell? ⟨X + 1, 0, none⟩ = some (.int .i64 0) := by rw [(row_cell HY0.out 0).1]; rfl
  have y1 : W0.cell? ⟨X + 1, 1, none⟩ = some (.int .i64 0) := by rw [(row_cell HY0.out 1).1]; rfl
  have z0 : W0.frozen? ⟨X + 1, 0, none⟩ = false := (row_cell HY0.out 0).2
  have z1 : W0.frozen? ⟨X + 1, 1, none⟩ = false := (row_cell HY0.out 1).2
  have HM : Hid (MV W0 g rb cb mo R C) := h.below (by rw [hX]; exact B0.out)
  have gc : W0.cell? ⟨g, 1, none⟩ = some (.map (some rb)) := by rw [(row_cell HM.out.hp 1).1]; rfl
  have HC : Hid (∀ i x, lv[i]? = some x → W0.cell? ⟨b, off + i, none⟩ = some (.int .i64 x)) := fun i x hx => (B0.out.cell (by show b < X; omega)).trans (hc i x hx)
  have HN : Hid (lv.length = n ∧ n ≤ 4) := ⟨hn, hn4⟩
  rw [hX]
  clear h hb hc hn hn4
  go_enter Try.func28, Try.ntmps28
  go_upto_block 0 with fail
  clear hW0 hX
  go_cut [15] (fun ix wx => wx = W0 ∧ findV R e (l0, d0) lv = (l0, d0))
  case first =>
    go_wp2_with fail
    go_loopw [15] (fun iv wr => FR n lv R e (l0, d0) W0 iv wr) (fun i _ => n - (intOf i).toNat)
    case atStart => exact ⟨⟨0, Nat.zero_le _, rfl, rfl, rfl⟩⟩
    case round =>
      obtain ⟨⟨j, hj, rfl, hf, hwr⟩⟩ := hrel
      subst hwr
      by_cases hlt : j < n
      rotate_left
      · have hjI : ¬ (j : Int) < (n : Int) := by omega
        have g0 : decide ((j : Int) < (n : Int)) = false := by simp; omega
        have hd : lv.drop j = [] := List.drop_eq_nil_of_le (by have := HN.out; omega)
        rw [hd] at hf
        have HF : Hid (findV R e (l0, d0) lv = (l0, d0)) := hf.symm
        clear hlt hj hf hd
        go_wp2_with fail
        go_meet
        exact ⟨rfl, HF.out⟩
      have hjI : (j : Int) < (n : Int) := by omega
      have g0 : decide ((j : Int) < (n : Int)) = true := by simp; omega
      have hjl : j < lv.length := by have := HN.out; omega
      obtain ⟨l, hl⟩ : ∃ l, lv[j] = l := ⟨_, rfl⟩
      have hd : lv.drop j = l :: lv.drop (j + 1) := by rw [List.drop_eq_getElem_cons hjl, hl]
      rw [hd] at hf
      have q0 := HC.out j l (by rw [List.getElem?_eq_getElem hjl, hl])
      have hlk : (Instr.lookup 61 (.map (some rb)) (.agg #[.int .i64 e, .int .i64 l]) true).run Try.prog wr = .ok (.tuple #[.int .i64 ((getL R e l).getD 0), .bool (getL R e l).isSome]) wr := lookup_ok HM.out.rl ek_matter Try.underlying61 (zero_int _) e l
      have HX : Hid (j < n ∧ n ≤ 4) := ⟨hlt, HN.out.2⟩
      have hj4 : (j : Int) < 4 := by have := HN.out; omega
      cases hg : getL R e l with
      | some d =>
        have HF : Hid (findV R e (l0, d0) lv = (l, d)) := by rw [← hf]; show findV R e (l0, d0) (l :: lv.drop (j + 1)) = (l, d); unfold findV; rw [hg]
        rw [hg] at hlk
        simp only [Option.getD_some, Option.isSome_some] at hlk
        clear hf hd hl hjl hlt hj hg
        go_wp2_with fail
        refine bodyPost_ret (results_cell_one rfl _ _ (X + 1) _ _ rfl (set_two HY0.out _ _) Try.underlying40 rfl (by kernel_rfl)) rfl ?_
        exact ⟨by rw [HF.out], (B0.out.setCell (by exact Nat.le_succ _) _).setCell (by exact Nat.le_succ _) _⟩
      | none =>
        have HF : Hid (findV R e (l0, d0) (lv.drop (j + 1)) = findV R e (l0, d0) lv) := by
          rw [← hf]
          show _ = findV R e (l0, d0) (l :: lv.drop (j + 1))
          rw [show findV R e (l0, d0) (l :: lv.drop (j + 1)) = findV R e (l0, d0) (lv.drop (j + 1)) by conv => lhs; unfold findV; rw [hg]]
        rw [hg] at hlk
        simp only [Option.getD_none, Option.isSome_none] at hlk
        clear hf hd hl hjl hlt hj hg
        go_wp2_with fail
        go_roundw
        case rel =>
          have Q : FR n lv R e (l0, d0) wr (.int .i64 ((j : Int) + 1)) wr := ⟨⟨j + 1, HX.out.1, by go_num, HF.out, rfl⟩⟩
          first | exact Q | ((repeat apply Exists.intro); exact ⟨Q, rfl⟩)
        case measure => have := HX.out; simp [intOf]; omega
  case rest =>
    obtain ⟨w3, hw3⟩ : ∃ w', w' = wc := ⟨_, rfl⟩
    subst hw3
    obtain ⟨hw, hf⟩ := hcut
    rw [hw]
    have HF := Lib.hid hf
    clear hf hw
    go_wp2_with fail
    refine bodyPost_ret (results_cell_one rfl _ _ (X + 1) _ _ rfl (set_two HY0.out _ _) Try.underlying40 rfl (by kernel_rfl)) rfl ?_
    exact ⟨by rw [HF.out], (B0.out.setCell (by exact Nat.le_succ _) _).setCell (by exact Nat.le_succ _) _⟩
end Go.Proofs.Ythnlkfcfiieddaa.Hl
