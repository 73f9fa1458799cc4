/-
  What is done: few and short messages. Each statement bears its own conditions.
-/
import Derived.Test.YtejambofnffopaaQuI
namespace Go.Proofs.Ytejambofnffopaa.Q
open Go.RowKit Go.Proofs.Ytejambofnffopaa.F Go.Proofs.Ytejambofnffopaa.U
open Go.ChangeShapes Go.WideShapes Go.ChangeAt
set_option linter.unusedVariables false
set_option linter.unusedSimpArgs false
theorem results_cell_tmp {P : Program} {fn : Func} {p q : Tmp} {ty : TypeId} (h : fn.results = #[.cell p ty, .tmp q]) (tmps : Array Value) (w : World) (g : Nat) (cs : List Value) (d : TypeDesc)
    (hp : tmps.getD p undef = .pointer (some ⟨g, 0, none⟩)) (hc : w.rangeAt g 0 cs)
    (hu : P.underlying ty = some d) (hd : d.isRow = true) (hi : (P.info? ty).map (·.size) = some cs.length) :
    (results fn tmps).run P w = .ok (.tuple #[.agg cs.toArray, tmps.getD q undef]) w := by
  have hp' : tmps[p]?.getD undef = .pointer (some ⟨g, 0, none⟩) := by simpa using hp
  simp [results, h, hp', asAddr, run_loadVar_mid w g 0 ty cs d hc hu hd hi]
theorem results_cell_two {P : Program} {fn : Func} {p q s : Tmp} {ty : TypeId} (h : fn.results = #[.cell p ty, .tmp q, .tmp s]) (tmps : Array Value) (w : World) (g : Nat) (cs : List Value) (d : TypeDesc)
    (hp : tmps.getD p undef = .pointer (some ⟨g, 0, none⟩)) (hc : w.rangeAt g 0 cs)
    (hu : P.underlying ty = some d) (hd : d.isRow = true) (hi : (P.info? ty).map (·.size) = some cs.length) :
    (results fn tmps).run P w = .ok (.tuple #[.agg cs.toArray, tmps.getD q undef, tmps.getD s undef]) w := by
  have hp' : tmps[p]?.getD undef = .pointer (some ⟨g, 0, none⟩) := by simpa using hp
  simp [results, h, hp', asAddr, run_loadVar_mid w g 0 ty cs d hc hu hd hi]
theorem results_cell_one {P : Program} {fn : Func} {p : Tmp} {ty : TypeId} (h : fn.results = #[.cell p ty]) (tmps : Array Value) (w : World) (g : Nat) (cs : List Value) (d : TypeDesc)
    (hp : tmps.getD p undef = .pointer (some ⟨g, 0, none⟩)) (hc : w.rangeAt g 0 cs)
    (hu : P.underlying ty = some d) (hd : d.isRow = true) (hi : (P.info? ty).map (·.size) = some cs.length) :
    (results fn tmps).run P w = .ok (.agg cs.toArray) w := by
  have hp' : tmps[p]?.getD undef = .pointer (some ⟨g, 0, none⟩) := by simpa using hp
  simp [results, h, hp', asAddr, run_loadVar_mid w g 0 ty cs d hc hu hd hi]
theorem set_three {w : World} {g : Nat} {c0 c1 c2 : Value} {t : TypeId} (h : w.heap[g]? = some (.cells #[c0, c1, c2] t (0, 0))) (a b c : Value) : (((w.setCell ⟨g, 0, none⟩ a).setCell ⟨g, 1, none⟩ b).setCell ⟨g, 2, none⟩ c).rangeAt g 0 [a, b, c] := by
  have h1 := set_at (set_at (set_at h 0 a) 1 b) 2 c
  intro j v hv
  rw [Nat.zero_add, (row_cell h1 j).1]
  simpa using hv
theorem evlen3 {cs : List Value} (h : cs.length = 3) : ∃ u0 u1 u2 : Value, cs = [u0, u1, u2] := by
  match cs, h with
  | [u0, u1, u2], _ => exact ⟨_, _, _, rfl⟩
/-- Something that is done. -/
structure AC where
  kd : Int
  m : List Int
  l : List (List Int)
def RA (W : World) (x : AC) (cs : List Value) : Prop := ∃ v u, cs = [.int .i64 x.kd, v, u] ∧ Sc W (fun b => b < W.heap.size) v x.m ∧ Row W 1 (RL W) u x.l
set_option maxHeartbeats 2000000 in
theorem open_A {H : Type} {enc : TypeId × Value → H} {W : World} {base : Nat} {held : Bool} (n : Nat) (cs : List Value) (y : DataW H × List MemPlace) (hl : cs.length = 3) (h : DataW.trod enc Try.prog W base (fun _ => true) held n 35 cs = some y) (hw : ∀ n ∈ y.1.weights Try.prog 35, n ≤ reachBytes) : ∃ x : AC, RA W x cs := by
  obtain ⟨n', hf⟩ := evfield_of Try.underlying35 h hw
  obtain ⟨u0, u1, u2, rfl⟩ := evlen3 hl
  obtain ⟨w0, g0, k0⟩ := hf 0 _ rfl
  replace g0 : DataW.trod enc Try.prog W base (fun _ => true) held n' 3 [u0] = some w0 := by simpa [show Try.prog.cellsOf 3 = 1 by kernel_rfl] using g0
  obtain ⟨z0, e0, _, f0⟩ := DataW.trod_int Try.underlying3 g0
  injection e0 with e0
  subst e0
  obtain ⟨w1, g1, k1⟩ := hf 1 _ rfl
  replace g1 : DataW.trod enc Try.prog W base (fun _ => true) held n' 33 [u1] = some w1 := by simpa [show Try.prog.cellsOf 33 = 1 by kernel_rfl] using g1
  obtain ⟨M, hM⟩ := sc_of g1
  obtain ⟨w2, g2, k2⟩ := hf 2 _ rfl
  replace g2 : DataW.trod enc Try.prog W base (fun _ => true) held n' 27 [u2] = some w2 := by simpa [show Try.prog.cellsOf 27 = 1 by kernel_rfl] using g2
  obtain ⟨v, xs, e, hr⟩ := row_of (R := RL W) (k := 1) Try.underlying27 (by kernel_rfl) (by decide) (of_decide_eq_true (by kernel_rfl)) (fun n cs y h1 h2 h3 => open_L n cs y h1 h2 h3) g2 k2
  injection e with e
  subst e
  exact ⟨⟨z0, M, xs⟩, u1, u2, rfl, hM, hr⟩
theorem Mr.app {w : World} {r : Nat → Prop} {S S' : List Sl} {LL LL' : List (List Int)} (h : Mr w r S LL) (h' : Mr w r S' LL') : Mr w r (S ++ S') (LL ++ LL') := by
  refine ⟨by rw [List.length_append, List.length_append, h.len, h'.len], fun i s L h1 h2 => ?_⟩
  by_cases hi : i < S.length
  · rw [List.getElem?_append_left hi] at h1
    rw [List.getElem?_append_left (by rw [← h.len]; exact hi)] at h2
    exact h.at_ i s L h1 h2
  · rw [List.getElem?_append_right (by omega)] at h1
    rw [List.getElem?_append_right (by rw [← h.len]; omega), ← h.len] at h2
    exact h'.at_ _ s L h1 h2
theorem Mr.low {lo : Nat} {w w' : World} {S : List Sl} {LL : List (List Int)} (h : Mr w (fun b => b < lo) S LL) (hb : Below lo w w') : Mr w' (fun b => b < lo) S LL := ⟨h.len, fun i s L h1 h2 => sq_low (h.at_ i s L h1 h2) hb⟩
/-- The first messages' first words. -/
def cutL (LL : List (List Int)) : List (List Int) := (LL.map (List.take 40)).take 40
structure CutR (X lo : Nat) (kd : Int) (vm vl : Value) (nl : Nat) (LL : List (List Int)) (w : World) (v iv : Value) (wr : World) : Prop where
  ex : ∃ (j : Nat) (S : List Sl), j ≤ nl ∧ j ≤ 40 ∧ iv = .int .i64 (j : Int) ∧ wr.heap[X]? = some (.cells #[.int .i64 kd, vm, vl] 35 (0, 0)) ∧ wr.heap[X + 1]? = some (.cells #[.int .i64 0, .slice none 0 0, .slice none 0 0] 35 (0, 0)) ∧ Ow 33 wr (fun b => X + 2 ≤ b) v j (CS S) ∧ Mr wr (fun b => b < lo) S ((LL.map (List.take 40)).take j) ∧ Below X w wr ∧ X + 2 ≤ wr.heap.size
set_option maxRecDepth 100000 in
set_option maxHeartbeats 8000000 in
theorem cut_any (A0 : World) (kd : Int) (vm : Value) (M : List Int) (AL : Option Addr) (nl cl : Nat) (LL : List (List Int)) (w : World) (hm : Sc A0 (fun b => b < A0.heap.size) vm M) (hl : Row A0 1 (RL A0) (.slice AL nl cl) LL) (hb : Below A0.heap.size A0 w) :
    Calls Try.prog 12 #[.agg #[.int .i64 kd, vm, .slice AL nl cl]] w fun e w' => ∃ (Am : Option Addr) (jm cm : Nat) (Av : Option Addr) (j cv : Nat) (S : List Sl), e = .returned (.agg #[.int .i64 kd, .slice Am jm cm, .slice Av j cv]) ∧ Sq w' (fun b => b < A0.heap.size) (.slice Am jm cm) jm (CU (M.take 40)) ∧ Ow 33 w' (fun b => w.heap.size ≤ b) (.slice Av j cv) j (CS S) ∧ Mr w' (fun b => b < A0.heap.size) S (cutL LL) ∧ Below w.heap.size w w' := by
  obtain ⟨i0, hi, hz0, hz1, hz2⟩ := info_of sl_info
  obtain ⟨lo, hlo⟩ : ∃ lo, A0.heap.size = lo := ⟨_, rfl⟩
  obtain ⟨AM, cM, rfl⟩ := hm.form
  have hm2 := hm.sq.2
  obtain ⟨mm, hmm⟩ : ∃ mm, M.length = mm := ⟨_, rfl⟩
  rw [hmm] at hm2 ⊢
  obtain ⟨jm, hjm⟩ : ∃ jm, min mm 40 = jm := ⟨_, rfl⟩
  have hmn : min (mm : Int) 40 = (jm : Int) := by omega
  have hj1 : (jm : Int) ≤ (cM : Int) := by have := hm2.2.1; omega
  have hj0 : (0 : Int) ≤ (jm : Int) := by omega
  have hj2 : jm ≤ cM := by have := hm2.2.1; omega
  have hT := Sq_take (j := jm) hm2.1 (by omega)
  have HKS : Hid (Sq w (fun b => b < lo) (.slice AM jm cM) jm (CU (M.take 40))) := by
    have h1 : (CU M).take jm = CU (M.take 40) := by
      have : M.take 40 = M.take jm := by rw [← hjm, ← hmm]; rw [List.take_eq_take_iff]; omega
      rw [this]; simp [CU, List.map_take]
    rw [h1] at hT
    rw [← hlo]
    exact sq_low hT hb
  have HR := Lib.hid hl
  have HA := Lib.hid hb
  have hloX : lo ≤ w.heap.size := by rw [← hlo]; exact hb.size
  have HLO := Lib.hid hlo
  rw [hlo]
  obtain ⟨X, hX⟩ : ∃ X, w.heap.size = X := ⟨_, rfl⟩
  obtain ⟨W0, hW0⟩ : ∃ W0, (w.alloc (.cells #[.int .i64 kd, .slice AM mm cM, .slice AL nl cl] 35)).alloc (.cells #[.int .i64 0, .slice none 0 0, .slice none 0 0] 35) = W0 := ⟨_, rfl⟩
  have B0 : Hid (Below X w W0) := by rw [← hW0, ← hX]; exact (((Below.refl _ _).alloc (Nat.le_refl _) _).alloc (by simp) _)
  have S0 : Hid (W0.heap.size = X + 2 ∧ lo ≤ X) := by
    refine ⟨?_, by omega⟩
    rw [← hW0, ← hX]; simp
  have HX0 : Hid (W0.heap[X]? = some (.cells #[.int .i64 kd, .slice AM mm cM, .slice AL nl cl] 35 (0, 0))) := by
    rw [← hW0, ← hX]; exact (((Below.refl _ _).alloc (Nat.le_refl _) _).block _ (by simp)).trans (heap_alloc_new _ _)
  have HY0 : Hid (W0.heap[X + 1]? = some (.cells #[.int .i64 0, .slice none 0 0, .slice none 0 0] 35 (0, 0))) := by
    rw [← hW0, ← hX]; have := heap_alloc_new (w.alloc (.cells #[.int .i64 kd, .slice AM mm cM, .slice AL nl cl] 35)) (.cells #[.int .i64 0, .slice none 0 0, .slice none 0 0] 35); unfold Hid; simpa using this
  have x0 : W0.cell? ⟨X, 0, none⟩ = some (.int .i64 kd) := by rw [(row_cell HX0.out 0).1]; rfl
  have xf0 : W0.frozen? ⟨X, 0, none⟩ = false := (row_cell HX0.out 0).2
  have x1 : W0.cell? ⟨X, 1, none⟩ = some (.slice AM mm cM) := by rw [(row_cell HX0.out 1).1]; rfl
  have xf1 : W0.frozen? ⟨X, 1, none⟩ = false := (row_cell HX0.out 1).2
  have x2 : W0.cell? ⟨X, 2, none⟩ = some (.slice AL nl cl) := by rw [(row_cell HX0.out 2).1]; rfl
  have xf2 : W0.frozen? ⟨X, 2, none⟩ = false := (row_cell HX0.out 2).2
  have y0 : W0.cell? ⟨X + 1, 0, none⟩ = some (.int .i64 0) := by rw [(row_cell HY0.out 0).1]; rfl
  have yf0 : W0.frozen? ⟨X + 1, 0, none⟩ = false := (row_cell HY0.out 0).2
  have y1 : W0.cell? ⟨X + 1, 1, none⟩ = some (.slice none 0 0) := by rw [(row_cell HY0.out 1).1]; rfl
  have yf1 : W0.frozen? ⟨X + 1, 1, none⟩ = false := (row_cell HY0.out 1).2
  have y2 : W0.cell? ⟨X + 1, 2, none⟩ = some (.slice none 0 0) := by rw [(row_cell HY0.out 2).1]; rfl
  have yf2 : W0.frozen? ⟨X + 1, 2, none⟩ = false := (row_cell HY0.out 2).2
  rw [hX]
  clear hm hm2 hl hb hlo hloX hT hmm hjm
  go_enter Try.func12, Try.ntmps12
  go_wp2_with fail
  go_loopw [3, 4] (fun v iv wr => CutR X lo kd (.slice AM jm cM) (.slice AL nl cl) nl LL w v iv wr) (fun _ i _ => nl - (intOf i).toNat)
  case atStart => exact ⟨⟨0, [], Nat.zero_le _, by omega, rfl, set_at HX0.out 1 _, (set_far 1 _ (by omega)).trans HY0.out, Ow.nil _ _ _, ⟨rfl, fun i s L h1 _ => by simp at h1⟩, B0.out.setCell (Nat.le_refl _) _, by have := S0.out; simp [this.1]⟩⟩
  case round =>
    obtain ⟨⟨j, S, hj, hj40, rfl, hxr, hyr, ho, hmr, hbr, hsz⟩⟩ := hrel
    obtain ⟨Av, cv, rfl⟩ := ho.sl
    have HXR := Lib.hid hxr
    have HYR := Lib.hid hyr
    have HO := Lib.hid ho
    have HM := Lib.hid hmr
    have HB := Lib.hid hbr
    have HLX : Hid (lo ≤ X ∧ X ≤ X + 2 ∧ X + 2 ≤ wr.heap.size) := ⟨S0.out.2, by omega, hsz⟩
    clear hxr hyr ho hmr hbr hsz x0 xf0 x1 xf1 x2 xf2 y0 yf0 y1 yf1 y2 yf2
    have x0 : wr.cell? ⟨X, 0, none⟩ = some (.int .i64 kd) := by rw [(row_cell HXR.out 0).1]; rfl
    have xf0 : wr.frozen? ⟨X, 0, none⟩ = false := (row_cell HXR.out 0).2
    have x1 : wr.cell? ⟨X, 1, none⟩ = some (.slice AM jm cM) := by rw [(row_cell HXR.out 1).1]; rfl
    have xf1 : wr.frozen? ⟨X, 1, none⟩ = false := (row_cell HXR.out 1).2
    have x2 : wr.cell? ⟨X, 2, none⟩ = some (.slice AL nl cl) := by rw [(row_cell HXR.out 2).1]; rfl
    have xf2 : wr.frozen? ⟨X, 2, none⟩ = false := (row_cell HXR.out 2).2
    have y0 : wr.cell? ⟨X + 1, 0, none⟩ = some (.int .i64 0) := by rw [(row_cell HYR.out 0).1]; rfl
    have yf0 : wr.frozen? ⟨X + 1, 0, none⟩ = false := (row_cell HYR.out 0).2
    have y1 : wr.cell? ⟨X + 1, 1, none⟩ = some (.slice none 0 0) := by rw [(row_cell HYR.out 1).1]; rfl
    have yf1 : wr.frozen? ⟨X + 1, 1, none⟩ = false := (row_cell HYR.out 1).2
    have y2 : wr.cell? ⟨X + 1, 2, none⟩ = some (.slice none 0 0) := by rw [(row_cell HYR.out 2).1]; rfl
    have yf2 : wr.frozen? ⟨X + 1, 2, none⟩ = false := (row_cell HYR.out 2).2
    have HLL : Hid (nl = LL.length) := by
      obtain ⟨a', c', e, _⟩ := HR.out.form
      injection e
    by_cases hlt : j < nl
    rotate_left
    · have hjI : ¬ (j : Int) < (nl : Int) := by omega
      have hjb : decide ((j : Int) < (nl : Int)) = false := by simpa using hjI
      have HEND : (LL.map (List.take 40)).take j = cutL LL := by
        have := HLL.out
        unfold cutL
        rw [List.take_of_length_le (by simp; omega), List.take_of_length_le (by simp; omega)]
      clear hlt hj hj40
      have HC : Hid ((LL.map (List.take 40)).take j = cutL LL) := HEND
      obtain ⟨W3, hW3⟩ : ∃ W3, wr.setCell ⟨X, 2, none⟩ (.slice Av j cv) = W3 := ⟨_, rfl⟩
      have X3 : Hid (W3.heap[X]? = some (.cells #[.int .i64 kd, .slice AM jm cM, .slice Av j cv] 35 (0, 0))) := by rw [← hW3]; exact set_at HXR.out 2 _
      have Y3 : Hid (W3.heap[X + 1]? = some (.cells #[.int .i64 0, .slice none 0 0, .slice none 0 0] 35 (0, 0))) := by rw [← hW3]; exact (set_far 2 _ (by omega)).trans HYR.out
      have B3 : Hid (Below X w W3) := by rw [← hW3]; exact HB.out.setCell (Nat.le_refl _) _
      have O3 : Hid (Ow 33 W3 (fun b => X + 2 ≤ b) (.slice Av j cv) j (CS S)) := by
        rw [← hW3]; exact HO.out.fo ((Fo.refl (fun b => b = X) wr).setCell (.inl rfl) 2 _) (fun b hb e => by omega)
      have M3 : Hid (Mr W3 (fun b => b < lo) S (cutL LL)) := by
        rw [← HC.out, ← hW3]; exact HM.out.low ((Below.refl _ _).setCell (by have := HLX.out; exact HLX.out.1) _)
      have r0 : W3.cell? ⟨X, 0, none⟩ = some (.int .i64 kd) := by rw [(row_cell X3.out 0).1]; rfl
      have rf0 : W3.frozen? ⟨X, 0, none⟩ = false := (row_cell X3.out 0).2
      have r1 : W3.cell? ⟨X, 1, none⟩ = some (.slice AM jm cM) := by rw [(row_cell X3.out 1).1]; rfl
      have rf1 : W3.frozen? ⟨X, 1, none⟩ = false := (row_cell X3.out 1).2
      have r2 : W3.cell? ⟨X, 2, none⟩ = some (.slice Av j cv) := by rw [(row_cell X3.out 2).1]; rfl
      have rf2 : W3.frozen? ⟨X, 2, none⟩ = false := (row_cell X3.out 2).2
      have s0 : W3.cell? ⟨X + 1, 0, none⟩ = some (.int .i64 0) := by rw [(row_cell Y3.out 0).1]; rfl
      have sf0 : W3.frozen? ⟨X + 1, 0, none⟩ = false := (row_cell Y3.out 0).2
      have s1 : W3.cell? ⟨X + 1, 1, none⟩ = some (.slice none 0 0) := by rw [(row_cell Y3.out 1).1]; rfl
      have sf1 : W3.frozen? ⟨X + 1, 1, none⟩ = false := (row_cell Y3.out 1).2
      have s2 : W3.cell? ⟨X + 1, 2, none⟩ = some (.slice none 0 0) := by rw [(row_cell Y3.out 2).1]; rfl
      have sf2 : W3.frozen? ⟨X + 1, 2, none⟩ = false := (row_cell Y3.out 2).2
      go_wp2_with fail
      refine bodyPost_ret (results_cell_one rfl _ _ (X + 1) _ _ rfl (set_three Y3.out _ _ _) Try.underlying35 rfl (by kernel_rfl)) rfl ?_
      have hf : Fo (fun b => b = X + 1) W3 (((W3.setCell ⟨X + 1, 0, none⟩ (.int .i64 kd)).setCell ⟨X + 1, 1, none⟩ (.slice AM jm cM)).setCell ⟨X + 1, 2, none⟩ (.slice Av j cv)) := (((Fo.refl (fun b => b = X + 1) W3).setCell (.inl rfl) 0 _).setCell (.inl rfl) 1 _).setCell (.inl rfl) 2 _
      have O4 := O3.out.fo hf (fun b hb e => by omega)
      have B34 : Below X W3 (((W3.setCell ⟨X + 1, 0, none⟩ (.int .i64 kd)).setCell ⟨X + 1, 1, none⟩ (.slice AM jm cM)).setCell ⟨X + 1, 2, none⟩ (.slice Av j cv)) := (((Below.refl _ _).setCell (by exact Nat.le_succ _) _).setCell (by exact Nat.le_succ _) _).setCell (by exact Nat.le_succ _) _
      have B4 := B3.out.trans B34
      exact ⟨AM, jm, cM, Av, j, cv, rfl, sq_low HKS.out (B4.mono HLX.out.1), S, O4.imp fun b _ hb => by omega, M3.out.low (B34.mono HLX.out.1), B4⟩
    by_cases hcap : j < 40
    rotate_left
    · have hjI : (j : Int) < (nl : Int) := by omega
      have hjb : decide ((j : Int) < (nl : Int)) = true := by simpa using hjI
      have hcI : ¬ (j : Int) < 40 := by omega
      have hcb : decide ((j : Int) < 40) = false := by simpa using hcI
      have HEND : (LL.map (List.take 40)).take j = cutL LL := by
        have : j = 40 := by omega
        subst this; rfl
      clear hlt hj hj40 hcap
      have HC : Hid ((LL.map (List.take 40)).take j = cutL LL) := HEND
      obtain ⟨W3, hW3⟩ : ∃ W3, wr.setCell ⟨X, 2, none⟩ (.slice Av j cv) = W3 := ⟨_, rfl⟩
      have X3 : Hid (W3.heap[X]? = some (.cells #[.int .i64 kd, .slice AM jm cM, .slice Av j cv] 35 (0, 0))) := by rw [← hW3]; exact set_at HXR.out 2 _
      have Y3 : Hid (W3.heap[X + 1]? = some (.cells #[.int .i64 0, .slice none 0 0, .slice none 0 0] 35 (0, 0))) := by rw [← hW3]; exact (set_far 2 _ (by omega)).trans HYR.out
      have B3 : Hid (Below X w W3) := by rw [← hW3]; exact HB.out.setCell (Nat.le_refl _) _
      have O3 : Hid (Ow 33 W3 (fun b => X + 2 ≤ b) (.slice Av j cv) j (CS S)) := by
        rw [← hW3]; exact HO.out.fo ((Fo.refl (fun b => b = X) wr).setCell (.inl rfl) 2 _) (fun b hb e => by omega)
      have M3 : Hid (Mr W3 (fun b => b < lo) S (cutL LL)) := by
        rw [← HC.out, ← hW3]; exact HM.out.low ((Below.refl _ _).setCell (by have := HLX.out; exact HLX.out.1) _)
      have r0 : W3.cell? ⟨X, 0, none⟩ = some (.int .i64 kd) := by rw [(row_cell X3.out 0).1]; rfl
      have rf0 : W3.frozen? ⟨X, 0, none⟩ = false := (row_cell X3.out 0).2
      have r1 : W3.cell? ⟨X, 1, none⟩ = some (.slice AM jm cM) := by rw [(row_cell X3.out 1).1]; rfl
      have rf1 : W3.frozen? ⟨X, 1, none⟩ = false := (row_cell X3.out 1).2
      have r2 : W3.cell? ⟨X, 2, none⟩ = some (.slice Av j cv) := by rw [(row_cell X3.out 2).1]; rfl
      have rf2 : W3.frozen? ⟨X, 2, none⟩ = false := (row_cell X3.out 2).2
      have s0 : W3.cell? ⟨X + 1, 0, none⟩ = some (.int .i64 0) := by rw [(row_cell Y3.out 0).1]; rfl
      have sf0 : W3.frozen? ⟨X + 1, 0, none⟩ = false := (row_cell Y3.out 0).2
      have s1 : W3.cell? ⟨X + 1, 1, none⟩ = some (.slice none 0 0) := by rw [(row_cell Y3.out 1).1]; rfl
      have sf1 : W3.frozen? ⟨X + 1, 1, none⟩ = false := (row_cell Y3.out 1).2
      have s2 : W3.cell? ⟨X + 1, 2, none⟩ = some (.slice none 0 0) := by rw [(row_cell Y3.out 2).1]; rfl
      have sf2 : W3.frozen? ⟨X + 1, 2, none⟩ = false := (row_cell Y3.out 2).2
      go_wp2_with fail
      refine bodyPost_ret (results_cell_one rfl _ _ (X + 1) _ _ rfl (set_three Y3.out _ _ _) Try.underlying35 rfl (by kernel_rfl)) rfl ?_
      have hf : Fo (fun b => b = X + 1) W3 (((W3.setCell ⟨X + 1, 0, none⟩ (.int .i64 kd)).setCell ⟨X + 1, 1, none⟩ (.slice AM jm cM)).setCell ⟨X + 1, 2, none⟩ (.slice Av j cv)) := (((Fo.refl (fun b => b = X + 1) W3).setCell (.inl rfl) 0 _).setCell (.inl rfl) 1 _).setCell (.inl rfl) 2 _
      have O4 := O3.out.fo hf (fun b hb e => by omega)
      have B34 : Below X W3 (((W3.setCell ⟨X + 1, 0, none⟩ (.int .i64 kd)).setCell ⟨X + 1, 1, none⟩ (.slice AM jm cM)).setCell ⟨X + 1, 2, none⟩ (.slice Av j cv)) := (((Below.refl _ _).setCell (by exact Nat.le_succ _) _).setCell (by exact Nat.le_succ _) _).setCell (by exact Nat.le_succ _) _
      have B4 := B3.out.trans B34
      exact ⟨AM, jm, cM, Av, j, cv, rfl, sq_low HKS.out (B4.mono HLX.out.1), S, O4.imp fun b _ hb => by omega, M3.out.low (B34.mono HLX.out.1), B4⟩
    have hjI : (j : Int) < (nl : Int) := by omega
    have hjb : decide ((j : Int) < (nl : Int)) = true := by simpa using hjI
    have hcI : (j : Int) < 40 := by omega
    have hcb : decide ((j : Int) < 40) = true := by simpa using hcI
    have HXX : Hid (j < nl ∧ j < 40) := ⟨hlt, hcap⟩
    obtain ⟨hlen, b, off, K, cs, hax, hbl, hKj, hRA, _, hc⟩ := HR.out.at_ j hlt
    clear hlen
    subst hax
    obtain ⟨v', rfl, hK1⟩ := hRA
    have HBL : Hid (b < lo) := by rw [← HLO.out]; exact hbl
    have hAr : Below lo A0 wr := by rw [← HLO.out]; exact HA.out.trans (HB.out.mono (by rw [HLO.out]; exact HLX.out.1))
    have e0 : wr.cell? ⟨b, off + j, none⟩ = some v' := by
      have := cell_low hAr HBL.out (hc 0 _ rfl)
      simpa using this
    obtain ⟨Ak, ck, rfl⟩ := hK1.form
    have hK2 := hK1.sq.2
    obtain ⟨nk, hnk⟩ : ∃ nk, K.length = nk := ⟨_, rfl⟩
    rw [hnk] at e0 hK2
    obtain ⟨jk, hjk⟩ : ∃ jk, min nk 40 = jk := ⟨_, rfl⟩
    have hkn : min (nk : Int) 40 = (jk : Int) := by omega
    have hk1 : (jk : Int) ≤ (ck : Int) := by have := hK2.2.1; omega
    have hk0 : (0 : Int) ≤ (jk : Int) := by omega
    have hk2 : jk ≤ ck := by have := hK2.2.1; omega
    have hT := Sq_take (j := jk) hK2.1 (by omega)
    have HKJ : Hid (Sq wr (fun b => b < lo) (.slice Ak jk ck) jk (CU (K.take 40)) ∧ (K.take 40).length = jk) := by
      have h1 : (CU K).take jk = CU (K.take 40) := by
        have : K.take 40 = K.take jk := by rw [← hjk, ← hnk]; rw [List.take_eq_take_iff]; omega
        rw [this]; simp [CU, List.map_take]
      rw [h1] at hT
      exact ⟨sq_low (hT.imp fun b _ hb => by rw [← HLO.out]; exact hb) hAr, by rw [List.length_take, hnk]; omega⟩
    have HLJ : Hid ((LL.map (List.take 40)).take (j + 1) = (LL.map (List.take 40)).take j ++ [K.take 40]) := by
      unfold Hid
      rw [List.take_add_one, List.getElem?_map, hKj]; rfl
    have HSW : Hid (∀ W, Below (X + 2) wr W → Below (X + 2) wr W ∧ W.cell? ⟨X, 2, none⟩ = some (.slice (some ⟨b, off, none⟩) nl cl) ∧ W.cell? ⟨b, off + j, none⟩ = some (.slice Ak nk ck)) := fun W hb => ⟨hb, (hb.cell (by show X < X + 2; omega)).trans x2, (hb.cell (by have := HBL.out; have := HLX.out; show b < X + 2; omega)).trans e0⟩
    clear hc hbl hlt hj hj40 hK1 hK2 hnk hcap hjk hT hAr hKj
    go_wp2_with fail
    refine wp_region_held_drew (S := (fun w' => Below (X + 2) wr w' ∧ w'.cell? ⟨X, 2, none⟩ = some (.slice (some ⟨b, off, none⟩) nl cl) ∧ w'.cell? ⟨b, off + j, none⟩ = some (.slice Ak nk ck))) (by kernel_rfl) ?_ (fun hHeld => ?_)
    · exact ⟨(Below.refl _ _).drew, x2, e0⟩
    refine takeD (i := 0) (d := some 24) (v := ?_) _ rfl rfl (by kernel_rfl) (by kernel_rfl) (by kernel_rfl) (fun _ _ _ h => h) (by rfl) ?_ (by assumption) ?_
    rotate_left
    · (intro w hSw; (try dsimp only at hSw); go_simp) <;> with_reducible rfl
    try simp only [Act.put, List.setIfInBounds_toArray, List.set_cons_zero, List.set_cons_succ]
    refine takeD (i := 1) (d := some 25) (v := ?_) _ rfl rfl (by kernel_rfl) (by kernel_rfl) (by kernel_rfl) (fun _ _ _ h => h) (by rfl) ?_ (by assumption) ?_
    rotate_left
    · (intro w hSw; (try dsimp only at hSw); go_simp) <;> with_reducible rfl
    try simp only [Act.put, List.setIfInBounds_toArray, List.set_cons_zero, List.set_cons_succ]
    refine takeD (i := 2) (d := some 26) (v := ?_) _ rfl rfl (by kernel_rfl) (by kernel_rfl) (by kernel_rfl) (fun _ _ _ h => h) (by rfl) ?_ (by assumption) ?_
    rotate_left
    · (intro w hSw; (try dsimp only at hSw); go_simp) <;> with_reducible rfl
    try simp only [Act.put, List.setIfInBounds_toArray, List.set_cons_zero, List.set_cons_succ]
    refine takeD (i := 3) (d := some 27) (v := ?_) _ rfl rfl (by kernel_rfl) (by kernel_rfl) (by kernel_rfl) (fun _ _ _ h => h) (by rfl) ?_ (by assumption) ?_
    rotate_left
    · (intro w hSw; (try dsimp only at hSw); go_simp) <;> with_reducible rfl
    try simp only [Act.put, List.setIfInBounds_toArray, List.set_cons_zero, List.set_cons_succ]
    refine takeD (i := 4) (d := some 28) (v := ?_) _ rfl rfl (by kernel_rfl) (by kernel_rfl) (by kernel_rfl) (fun _ _ _ h => h) (by rfl) ?_ (by assumption) ?_
    rotate_left
    · (intro w hSw; (try dsimp only at hSw); go_simp) <;> with_reducible rfl
    try simp only [Act.put, List.setIfInBounds_toArray, List.set_cons_zero, List.set_cons_succ]
    refine takeD (i := 5) (d := some 29) (v := ?_) _ rfl rfl (by kernel_rfl) (by kernel_rfl) (by kernel_rfl) (fun _ _ _ h => h) (by rfl) ?_ (by assumption) ?_
    rotate_left
    · (intro w hSw; (try dsimp only at hSw); go_simp) <;> with_reducible rfl
    try simp only [Act.put, List.setIfInBounds_toArray, List.set_cons_zero, List.set_cons_succ]
    refine takeD (i := 6) (d := some 30) (v := ?_) _ rfl rfl (by kernel_rfl) (by kernel_rfl) (by kernel_rfl) (fun _ _ _ h => h) (by rfl) ?_ (by assumption) ?_
    rotate_left
    · (intro w hSw; (try dsimp only at hSw); go_simp) <;> with_reducible rfl
    try simp only [Act.put, List.setIfInBounds_toArray, List.set_cons_zero, List.set_cons_succ]
    refine takeD (i := 7) (d := some 31) (v := ?_) _ rfl rfl (by kernel_rfl) (by kernel_rfl) (by kernel_rfl) (fun _ _ _ h => h) (by rfl) ?_ (by assumption) ?_
    rotate_left
    · (intro w hSw; (try dsimp only at hSw); go_simp) <;> with_reducible rfl
    try simp only [Act.put, List.setIfInBounds_toArray, List.set_cons_zero, List.set_cons_succ]
    refine takeD (i := 8) (d := some 32) (v := ?_) _ rfl rfl (by kernel_rfl) (by kernel_rfl) (by kernel_rfl) (fun _ _ _ h => h) (by rfl) ?_ (by assumption) ?_
    rotate_left
    · (intro w hSw; (try dsimp only at hSw); go_simp) <;> with_reducible rfl
    try simp only [Act.put, List.setIfInBounds_toArray, List.set_cons_zero, List.set_cons_succ]
    refine takeD (i := 9) (d := some 33) (v := ?_) _ rfl rfl (by kernel_rfl) (by kernel_rfl) (by kernel_rfl) (fun _ _ _ h => h) (by rfl) ?_ (by assumption) ?_
    rotate_left
    · (intro w hSw; (try dsimp only at hSw); go_simp) <;> with_reducible rfl
    try simp only [Act.put, List.setIfInBounds_toArray, List.set_cons_zero, List.set_cons_succ]
    refine takeD (i := 10) (d := some 34) (v := ?_) _ rfl rfl (by kernel_rfl) (by kernel_rfl) (by kernel_rfl) (fun _ _ _ h => h) (by rfl) ?_ (by assumption) ?_
    rotate_left
    · (intro w hSw; (try dsimp only at hSw); go_simp) <;> with_reducible rfl
    try simp only [Act.put, List.setIfInBounds_toArray, List.set_cons_zero, List.set_cons_succ]
    refine takeD (i := 11) (d := some 35) (v := ?_) _ rfl rfl (by kernel_rfl) (by kernel_rfl) (by kernel_rfl) (fun _ _ _ h => h) (by rfl) ?_ (by assumption) ?_
    rotate_left
    · (intro w hSw; (try dsimp only at hSw); go_simp) <;> with_reducible rfl
    try simp only [Act.put, List.setIfInBounds_toArray, List.set_cons_zero, List.set_cons_succ]
    refine takeD (i := 12) (d := some 36) (v := ?_) _ rfl rfl (by kernel_rfl) (by kernel_rfl) (by kernel_rfl) (fun _ _ _ h => h) (by rfl) ?_ (by assumption) ?_
    rotate_left
    · (intro w hSw; (try dsimp only at hSw); go_simp) <;> with_reducible rfl
    try simp only [Act.put, List.setIfInBounds_toArray, List.set_cons_zero, List.set_cons_succ]
    refine takeD (i := 13) (d := some 37) (v := ?_) _ rfl rfl (by kernel_rfl) (by kernel_rfl) (by kernel_rfl) (fun _ _ _ h => h) (by rfl) ?_ (by assumption) ?_
    rotate_left
    · (intro w hSw; (try dsimp only at hSw); go_simp) <;> with_reducible rfl
    try simp only [Act.put, List.setIfInBounds_toArray, List.set_cons_zero, List.set_cons_succ]
    obtain ⟨V, hV⟩ : ∃ V, wr.drew = V := ⟨_, rfl⟩
    have B_V : Hid (Below wr.heap.size wr V) := by rw [← hV]; exact (Below.refl _ _).drew
    simp only [hV]
    clear hV hHeld
    refine wpAnyH_ready (rs := [14]) (by kernel_rfl) (by simp) ?_
    refine AllReadyH.cons rfl (fun K0 hK => ?_) (AllReadyH.nil)
    have hx : Below V.heap.size V (V.alloc (.cells #[.slice Ak jk ck] 33)) := (Below.refl _ _).alloc (Nat.le_refl _) _
    have RD := Lib.hid (one_row (w := V) (.slice Ak jk ck) 33)
    obtain ⟨Va, h_Va⟩ : ∃ W, V.alloc (.cells #[.slice Ak jk ck] 33) = W := ⟨_, rfl⟩
    obtain ⟨bz, h_bz⟩ : ∃ vb, V.heap.size = vb := ⟨_, rfl⟩
    rw [h_Va] at hx RD
    have B_Va : Hid (Below wr.heap.size wr Va) := B_V.out.trans (hx.mono B_V.out.size)
    rw [h_bz] at RD
    try go_simp
    try rw [h_Va]
    try rw [h_bz]
    refine hK.out _ _ (HSW.out _ (B_Va.out.mono HLX.out.2.2)) (fun _ => ?_)
    clear h_Va h_bz hx
    clear hK K0
    try simp only [Act.put, List.getElem_toArray, List.getElem_cons_succ, List.getElem_cons_zero, List.setIfInBounds_toArray, List.set_cons_zero, List.set_cons_succ]
    refine wpAnyH_ready (rs := [15]) (by kernel_rfl) (by simp) ?_
    refine AllReadyH.cons rfl (fun K0 hK => ?_) (AllReadyH.nil)
    have O3 : Hid (Ow 33 Va (fun b => X + 2 ≤ b) (.slice Av j cv) j (CS S)) := HO.out.below B_Va.out
    refine wp_append_any Va (.tmp 24) (.tmp 38) 27 rfl 0 33 i0 (.slice none 0 0) 1 24 Try.underlying27 hi hz0 hz1 hz2 rfl (by decide) (.slice Av j cv) j (CS S) rfl O3.out.own (bz + 1) (some ⟨bz, 0, none⟩) 1 1 [.slice Ak jk ck] rfl RD.out (fun u hu => by simp at hu; subst hu; rfl) (by have := HXX.out; unfold maxLen; omega) (by have := HXX.out; omega) (Nat.zero_le _) ?_
    intro v2 w5 hown hgrow hblk
    have G := O3.out.grow hown hgrow (by
      rcases hblk with h | h
      · exact .inl h
      · exact .inr h)
    have B5x : Below (X + 2) Va w5 := G.2.below (fun b hb => hb) (by have := B_Va.out.size; have := HLX.out; omega)
    have B5 : Hid (Below (X + 2) wr w5) := (B_Va.out.mono HLX.out.2.2).trans B5x
    have O5 : Hid (Ow 33 w5 (fun b => X + 2 ≤ b) v2 (j + 1) (CS (S ++ [(Ak, jk, ck)]))) := by
      have h1 := G.1.imp (q := fun b => X + 2 ≤ b) fun b _ hb => by
        rcases hb with hb | hb
        · exact hb
        · have := B_Va.out.size; have := HLX.out; omega
      unfold Hid
      rw [CS_app]; exact h1
    clear hown hgrow hblk G RD O3 B_V B_Va B5x
    refine hK.out _ _ (HSW.out _ B5.out) (fun _ => ?_)
    clear hK K0
    try simp only [Act.put, List.getElem_toArray, List.getElem_cons_succ, List.getElem_cons_zero, List.setIfInBounds_toArray, List.set_cons_zero, List.set_cons_succ]
    refine wpAnyH_ready (rs := [16]) (by kernel_rfl) (by simp) ?_
    refine AllReadyH.cons rfl (fun K0 hK => ?_) (AllReadyH.nil)
    try go_simp
    refine hK.out _ _ (HSW.out _ B5.out) (fun _ => ?_)
    clear hK K0
    try simp only [Act.put, List.getElem_toArray, List.getElem_cons_succ, List.getElem_cons_zero, List.setIfInBounds_toArray, List.set_cons_zero, List.set_cons_succ]
    refine wpAnyH_done (by kernel_rfl) ?_ _
    go_wp2_with fail
    go_roundw
    case rel =>
      have hlw : Below lo wr w5 := B5.out.mono (by have := HLX.out; omega)
      have Q : CutR X lo kd (.slice AM jm cM) (.slice (some ⟨b, off, none⟩) nl cl) nl LL w v2 (.int .i64 ((j : Int) + 1)) w5 := ⟨⟨j + 1, _, by have := HXX.out; omega, by have := HXX.out; omega, by go_num, (B5.out.block _ (by omega)).trans HXR.out, (B5.out.block _ (by omega)).trans HYR.out, O5.out, by rw [HLJ.out]; exact (HM.out.low hlw).app (one_mr (by rw [HKJ.out.2]; exact sq_low HKJ.out.1 hlw)), HB.out.trans (B5.out.mono (by omega)), Nat.le_trans HLX.out.2.2 B5.out.size⟩⟩
      first | exact Q | ((repeat apply Exists.intro); exact ⟨Q, rfl⟩)
    case measure => have := HXX.out; simp [intOf]; omega
end Go.Proofs.Ytejambofnffopaa.Q
