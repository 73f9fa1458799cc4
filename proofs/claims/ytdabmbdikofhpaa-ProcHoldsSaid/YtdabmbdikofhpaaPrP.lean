/-
  The contract of Missed. Each statement bears its own conditions.
-/
import Derived.Test.YtdabmbdikofhpaaPrD
namespace Go.Proofs.Ytdabmbdikofhpaa.P
open Go.RowKit
set_option linter.unusedVariables false
set_option linter.unusedSimpArgs false
/-- Which are late, by number. -/
def lateL (t : Int) : List MP → Nat → List Int
  | [], _ => []
  | x :: r, i => if lateB x t then (i : Int) :: lateL t r (i + 1) else lateL t r (i + 1)
theorem lateL_snoc (t : Int) (x : MP) : ∀ (a : List MP) (i : Nat), lateL t (a ++ [x]) i = lateL t a i ++ (if lateB x t then [((i + a.length : Nat) : Int)] else [])
  | [], i => by simp [lateL]
  | y :: r, i => by
    have h := lateL_snoc t x r (i + 1)
    simp only [List.cons_append, lateL, h, List.length_cons]
    rw [show i + 1 + r.length = i + (r.length + 1) by omega]
    split <;> simp
theorem lateL_len (t : Int) : ∀ (a : List MP) (i : Nat), (lateL t a i).length ≤ a.length
  | [], i => by simp [lateL]
  | y :: r, i => by
    have h := lateL_len t r (i + 1)
    simp only [lateL]
    split <;> simp <;> omega
/-- What Missed leaves, up to a place. -/
def missL (t : Int) (l : List MP) (k : Nat) : List MP := (l.take k).map (missP · t) ++ l.drop k
theorem missL_len {t : Int} {l : List MP} {k : Nat} : (missL t l k).length = l.length := by
  unfold missL
  rw [List.length_append, List.length_map, List.length_take, List.length_drop]
  omega
theorem missL_at {t : Int} {l : List MP} {k : Nat} {x : MP} (h : l[k]? = some x) : (missL t l k)[k]? = some x := by
  have hk := (List.getElem?_eq_some_iff.1 h).1
  have h1 : ((l.take k).map (missP · t)).length = k := by rw [List.length_map, List.length_take]; omega
  unfold missL
  rw [List.getElem?_append_right (by omega), h1, Nat.sub_self, List.getElem?_drop]
  simpa using h
theorem missL_step {t : Int} {l : List MP} {k : Nat} {x : MP} (h : l[k]? = some x) : (missL t l k).set k (missP x t) = missL t l (k + 1) := by
  have hk := (List.getElem?_eq_some_iff.1 h).1
  have h1 : ((l.take k).map (missP · t)).length = k := by rw [List.length_map, List.length_take]; omega
  unfold missL
  rw [List.set_append_right _ _ (by omega), h1, Nat.sub_self, take_snoc h, List.map_append, drop_cons h, List.set_cons_zero, List.append_assoc]
  rfl
theorem set_same {l : List MP} {k : Nat} {x : MP} (h : l[k]? = some x) : l.set k x = l := by
  obtain ⟨h1, h2⟩ := List.getElem?_eq_some_iff.1 h
  subst h2
  exact List.set_getElem_self _
theorem missL_end {t : Int} {l : List MP} {n : Nat} (h : l.length = n) : missL t l n = l.map (missP · t) := by
  unfold missL
  rw [List.take_of_length_le (by omega), List.drop_of_length_le (by omega), List.append_nil]
structure MsRel (lo hi p rb n : Nat) (l : List MP) (t : Int) (w : World) (v5 v : Value) (wr : World) : Prop where
  ex : ∃ (k m : Nat) (A : Option Addr) (c : Nat), k ≤ n ∧ v = .int .i64 (k : Int) ∧ v5 = .slice A m c ∧ m = (lateL t (l.take k) 0).length ∧ wr.ownsRow w.heap.size 3 1 (.slice A m c) m (C (lateL t (l.take k) 0)) ∧ PT lo hi wr p rb (missL t l k) ∧ Past rb w wr
theorem int_info' : (Try.prog.info? 3).map (fun i => (i.zero, i.size, i.bytes)) = some (some (.int .i64 0), 1, 8) := by kernel_rfl
theorem info_of2 {e : TypeId} {z : Option Value} {k b : Nat} (h : (Try.prog.info? e).map (fun i => (i.zero, i.size, i.bytes)) = some (z, k, b)) : ∃ i, Try.prog.info? e = some i ∧ i.zero = z ∧ i.size = k ∧ i.bytes = b := by
  rcases hq : Try.prog.info? e with _ | i
  · rw [hq] at h; cases h
  · rw [hq] at h
    simp at h
    exact ⟨i, rfl, h.1, h.2.1, h.2.2⟩
theorem Past.grown' {g : Nat} {a w w' : World} {row : Option Nat} (h : Past g a w) (hg : w.grownBy w' row) (hr : ∀ k, row = some k → a.heap.size ≤ k) : Past g a w' := by
  have hb : Below a.heap.size w w' := (Below.refl a.heap.size w).grown hg h.size hr
  exact ⟨hb.os.trans h.os, hb.tape.trans h.tape, hb.output.trans h.output, Nat.le_trans h.size hb.size, fun k hk hk' => (hb.block k hk).trans (h.block k hk hk')⟩
theorem own_setc {w : World} {base e size n b o : Nat} {v u : Value} {xs : List Value} (h : w.ownsRow base e size v n xs) (hb : b < base) : (w.setCell ⟨b, o, none⟩ u).ownsRow base e size v n xs :=
  own_same' h fun g hg => Below.heap_setCell _ _ _ _ (by have := (h.lt g hg).1; dsimp only; omega)
theorem PT.under {lo hi p rb : Nat} {w w' : World} {l : List MP} (h : PT lo hi w p rb l) (hb : Below hi w w') : PT lo hi w' p rb l :=
  RT.keep h (Nat.le_trans (RT.hs h) hb.size) fun k _ hk => hb.block k hk
theorem miss_true {x : MP} {t : Int} (h : lateB x t = true) : missP x t = { x with mis := true } := by unfold missP; rw [h]; rfl
/-- What Missed answers and leaves. -/
def MsPost (lo hi p rb : Nat) (l : List MP) (t : Int) (w : World) (e : Ending) (w' : World) : Prop :=
  ∃ (A : Option Addr) (c : Nat), e = .returned (.slice A (lateL t l 0).length c) ∧ w'.ownsRow w.heap.size 3 1 (.slice A (lateL t l 0).length c) (lateL t l 0).length (C (lateL t l 0)) ∧ PT lo hi w' p rb (l.map (missP · t)) ∧ Past rb w w'
set_option maxRecDepth 100000 in
set_option maxHeartbeats 8000000 in
theorem missed_any (lo hi p rb : Nat) (l : List MP) (t : Int) (w : World) (h : PT lo hi w p rb l) (ho : ∀ x ∈ l, Ok x) (hl : l.length ≤ 16) :
    Calls Try.prog 23 #[.pointer (some ⟨p, 0, none⟩), .int .i64 t] w (MsPost lo hi p rb l t w) := by
  obtain ⟨i0, hinf, hz0, hz1, hz2⟩ := info_of2 int_info'
  obtain ⟨n, hn⟩ : ∃ n, l.length = n := ⟨_, rfl⟩
  rw [hn] at hl
  obtain ⟨cap, hc, hcap⟩ := RT.cell h
  rw [List.length_map, hn] at hc hcap
  have HN := Lib.hid hn
  have HO := Lib.hid ho
  have HP := Lib.hid h
  clear hn ho h hcap
  go_enter Try.func23, Try.ntmps23
  go_wp2_with fail
  clear hc
  go_loopw [5, 13] (fun v5 v wr => MsRel lo hi p rb n l t w v5 v wr) (fun _ v => fun _ => n - (intOf v).toNat)
  case atStart => exact ⟨⟨0, 0, none, 0, Nat.zero_le _, rfl, rfl, by simp [lateL], World.ownsRow_nil _ _ _ _, by simpa [missL] using HP.out, Past.refl _ _⟩⟩
  case round =>
    obtain ⟨⟨k, m, A, c, hk, rfl, rfl, hm, hown, hpt, hpast⟩⟩ := hrel
    have HK := Lib.hid hk
    have HM := Lib.hid hm
    have HOW := Lib.hid hown
    have HPT := Lib.hid hpt
    have HPA := Lib.hid hpast
    clear hk hm hown hpt hpast
    by_cases hlt : k < n
    · have HX : Hid (k < n) := hlt
      have hxs : l[k]? = some (l[k]'(by have := HN.out; omega)) := List.getElem?_eq_getElem _
      obtain ⟨x, hx⟩ : ∃ x, l[k]'(by have := HN.out; omega) = x := ⟨_, rfl⟩
      rw [hx] at hxs
      have HXS := Lib.hid hxs
      have hox : Ok x := HO.out x (List.mem_of_getElem? hxs)
      have hat : At wr rb (k * 13) x := PT.at_ HPT.out (missL_at hxs)
      have CL := Lib.hid (isLate_any rb (k * 13) x t wr hat hox)
      obtain ⟨q, hq⟩ : ∃ q, lateB x t = q := ⟨_, rfl⟩
      have HQ := Lib.hid hq
      rw [hq] at CL
      obtain ⟨cap, hc, hcap⟩ := RT.cell HPT.out
      rw [List.length_map, missL_len, HN.out] at hc hcap
      obtain ⟨c12, f12⟩ := RT.at_ HPT.out (c := x.cells) (by rw [List.getElem?_map, missL_at hxs]; rfl) (j := 12) rfl
      rw [show k * 13 + 12 = k * 13 + 10 + 2 by omega] at c12 f12
      have hkI : (k : Int) < (n : Int) := by omega
      have hm16 : m ≤ 16 := by
        have h1 := lateL_len t (l.take k) 0
        rw [← HM.out, List.length_take] at h1
        omega
      clear hx hxs hox hat hq hcap hlt
      cases q with
      | false =>
        clear c12 f12
        go_wp2_with (go_at_call 75; refine CL.out.mono ?_; rintro e w1 ⟨rfl, nd, rfl⟩)
        go_roundw
        case rel =>
          have h1 : lateL t (l.take (k + 1)) 0 = lateL t (l.take k) 0 := by rw [take_snoc HXS.out, lateL_snoc, HQ.out]; simp
          have h2 : missL t l (k + 1) = missL t l k := by
            rw [← missL_step HXS.out]
            have h3 : missP x t = x := by unfold missP; rw [HQ.out]; rfl
            rw [h3]
            exact set_same (missL_at HXS.out)
          have Q : MsRel lo hi p rb n l t w (.slice A m c) (.int .i64 ((k : Int) + 1)) (wr.drewN nd) := ⟨⟨k + 1, m, A, c, HX.out, by go_num, rfl, by rw [h1]; exact HM.out, by rw [h1]; exact own_below HOW.out (below_drewN (Below.refl _ _) nd), by rw [h2]; exact HPT.out.drawn nd, Past.drewN HPA.out nd⟩⟩
          first | exact Q | ((repeat apply Exists.intro); exact ⟨Q, rfl⟩)
        case measure => have := HX.out; simp [intOf]; omega
      | true =>
        have HWS : Hid (w.heap.size ≤ wr.heap.size) := HPA.out.size
        have HRB : Hid (rb < w.heap.size) := (PT.lt HP.out).2.1
        go_wp2_with (first | (go_at_call 75; refine CL.out.mono ?_; rintro e w1 ⟨rfl, nd, rfl⟩) | (at_builtin; refine wpList_append_own _ rfl _ _ 57 rfl w.heap.size 3 i0 (.int .i64 0) 1 8 Try.underlying57 hinf hz0 hz1 hz2 rfl (by decide) _ _ _ rfl (own_below (own_setc (own_below HOW.out (below_drewN (Below.refl _ _) nd)) HRB.out) ((Below.refl _ _).alloc (Nat.le_refl _) _)) ⟨wr.heap.size, 0, none⟩ 1 1 [.int .i64 (k : Int)] rfl rfl ?c1 ?c2 ?c3 ?c4 ?c5 ?_))
        case c1 =>
          intro j u hu
          have hsz : ((wr.drewN nd).setCell ⟨rb, k * 13 + 10 + 2, none⟩ (.bool true)).heap.size = wr.heap.size := by simp [World.setCell]
          have h9 := (row_cell (heap_alloc_new ((wr.drewN nd).setCell ⟨rb, k * 13 + 10 + 2, none⟩ (.bool true)) (.cells #[.int .i64 (k : Int)] 3)) j).1
          rw [hsz] at h9
          rw [Addr.add_lit, Nat.zero_add, h9]
          simpa using hu
        try (case c2 => first | exact ⟨rfl, trivial⟩ | rfl | (intro u hu; simp at hu; subst hu; rfl))
        try (case c3 => unfold maxLen; omega)
        try (case c4 => omega)
        try (case c5 => have := HWS.out; simp [World.setCell]; omega)
        intro v' w2 hown hgrow _
        obtain ⟨A', c', rfl⟩ := slice_form hown
        have h1 : lateL t (l.take (k + 1)) 0 = lateL t (l.take k) 0 ++ [(k : Int)] := by
          have hk := HX.out
          have hn := HN.out
          rw [take_snoc HXS.out, lateL_snoc, HQ.out, List.length_take, if_pos rfl, Nat.zero_add, Nat.min_eq_left (by omega)]
        have HO2 : Hid (w2.ownsRow w.heap.size 3 1 (.slice A' (m + 1) c') (m + 1) (C (lateL t (l.take (k + 1)) 0))) := by
          unfold Hid; rw [h1, C_app]; exact hown
        have HM2 : Hid (m + 1 = (lateL t (l.take (k + 1)) 0).length) := by
          unfold Hid; rw [h1, List.length_append, ← HM.out]; rfl
        have HP2 : Hid (PT lo hi w2 p rb (missL t l (k + 1))) := by
          have e1 := RT.put (HPT.out.drawn nd) (c := x.cells) (by rw [List.getElem?_map, missL_at HXS.out]; rfl) (j := 12) (by omega) (.bool true) rfl
          have e2 : ((missL t l k).map MP.cells).set k (x.cells.set 12 (.bool true)) = (missL t l (k + 1)).map MP.cells := by
            rw [← missL_step HXS.out, miss_true HQ.out, List.map_set]; rfl
          rw [e2] at e1
          have e3 := PT.below e1 ((Below.refl _ _).alloc (Nat.le_refl _) (.cells #[.int .i64 (k : Int)] 3))
          refine e3.under ((Below.refl _ _).grown hgrow (RT.hs e3) (fun g hg => ?_))
          have h3 := (HOW.out.lt g hg).1
          have h4 := RT.hs HP.out
          omega
        have HPA2 : Hid (Past rb w w2) := by
          refine Past.grown' (Past.alloc (Past.setCell (Past.drewN HPA.out nd) _ _) _) hgrow (fun g hg => (HOW.out.lt g hg).1)
        clear hown hgrow h1 c12 f12 hc
        go_wp2_with fail
        go_roundw
        case rel =>
          have Q : MsRel lo hi p rb n l t w (.slice A' (m + 1) c') (.int .i64 ((k : Int) + 1)) w2 := ⟨⟨k + 1, m + 1, A', c', HX.out, by go_num, rfl, HM2.out, HO2.out, HP2.out, HPA2.out⟩⟩
          first | exact Q | ((repeat apply Exists.intro); exact ⟨Q, rfl⟩)
        case measure => have := HX.out; simp [intOf]; omega
    · have hkn : k = n := by have := HK.out; omega
      clear hlt
      subst hkn
      go_wp2_with fail
      go_ret
      have e1 : l.take k = l := List.take_of_length_le (Nat.le_of_eq HN.out)
      have h1 := HOW.out
      have h2 := HM.out
      have h3 := HPT.out
      rw [e1] at h1 h2
      rw [missL_end HN.out] at h3
      subst h2
      exact ⟨A, c, rfl, h1, h3, HPA.out⟩
end Go.Proofs.Ytdabmbdikofhpaa.P
