/-
  What a queue does: Send, Push, Receive, Drain, Clear, All. Each statement bears its own conditions.
-/
import Derived.Test.YtejambofnffopaaQuB
namespace Go.Proofs.Ytejambofnffopaa.Q
open Go.RowKit Go.Proofs.Ytejambofnffopaa.F Go.Proofs.Ytejambofnffopaa.U
set_option linter.unusedVariables false
set_option linter.unusedSimpArgs false
set_option maxRecDepth 100000 in
set_option maxHeartbeats 8000000 in
theorem send_ok (lo : Nat) (p r : Nat → Prop) (g : Nat) (n k : Int) (LL : List (List Int)) (lost : Bool) (P : Nat → Prop) (A : Option Addr) (nk c : Nat) (K : List Int) (w : World) (h : QV lo w p r g n k LL lost) (hv : Sq w P (.slice A nk c) nk (CU K)) (hx0 : chkV n (k - (LL.length : Int)) 8 [K] = 0) (hr : ∀ b, w.heap.size ≤ b → r b) :
    Calls Try.prog 14 #[.pointer (some ⟨g, 0, none⟩), .slice A nk c] w fun e w' => ∃ q, e = .returned (.int .i64 0) ∧ QV lo w' q r g n k (LL ++ [K]) lost ∧ Nx p q w w' := by
  have AD := Lib.hid (add_ok lo p r g n k LL lost P A nk c K 8 w h hv hx0 (by decide) hr)
  clear h hv hx0 hr
  go_enter Try.func14, Try.ntmps14
  go_wp2_with fail
  refine AD.out.mono ?_
  rintro e w3 ⟨q, rfl, q3, n3⟩
  have Q := Lib.hid q3
  have HN := Lib.hid n3
  clear q3 n3
  go_wp2_with fail
  go_ret
  first | exact ⟨q, rfl, Q.out, HN.out⟩ | exact ⟨_, rfl, Q.out, HN.out⟩
theorem send_no (lo : Nat) (p r : Nat → Prop) (g : Nat) (n k : Int) (LL : List (List Int)) (lost : Bool) (P : Nat → Prop) (A : Option Addr) (nk c : Nat) (K : List Int) (x : Int) (w : World) (h : QV lo w p r g n k LL lost) (hv : Sq w P (.slice A nk c) nk (CU K)) (hx0 : chkV n (k - (LL.length : Int)) 8 [K] = x) (hxn : ¬ x = 0)  :
    Calls Try.prog 14 #[.pointer (some ⟨g, 0, none⟩), .slice A nk c] w fun e w' => e = .returned (.int .i64 x) ∧ Below w.heap.size w w' := by
  have AD := Lib.hid (add_no lo p r g n k LL lost P A nk c K 8 x w h hv hx0 hxn)
  
  clear h hv hx0 hxn
  go_enter Try.func14, Try.ntmps14
  go_wp2_with fail
  refine AD.out.mono ?_
  rintro e w3 ⟨rfl, b3⟩
  have B3 := Lib.hid b3
  clear b3
  go_wp2_with fail
  go_ret
  exact ⟨rfl, B3.out⟩
set_option maxRecDepth 100000 in
set_option maxHeartbeats 8000000 in
theorem push_ok (lo : Nat) (p r : Nat → Prop) (g : Nat) (n k : Int) (LL : List (List Int)) (lost : Bool) (P : Nat → Prop) (A : Option Addr) (nk c : Nat) (K : List Int) (w : World) (h : QV lo w p r g n k LL lost) (hv : Sq w P (.slice A nk c) nk (CU K)) (hx0 : chkV n (k - (LL.length : Int)) 17 [K] = 0) (hr : ∀ b, w.heap.size ≤ b → r b) :
    Calls Try.prog 15 #[.pointer (some ⟨g, 0, none⟩), .slice A nk c] w fun e w' => ∃ q, e = .returned (.int .i64 0) ∧ QV lo w' q r g n k (LL ++ [K]) lost ∧ Nx p q w w' := by
  have AD := Lib.hid (add_ok lo p r g n k LL lost P A nk c K 17 w h hv hx0 (by decide) hr)
  clear h hv hx0 hr
  go_enter Try.func15, Try.ntmps15
  go_wp2_with fail
  refine AD.out.mono ?_
  rintro e w3 ⟨q, rfl, q3, n3⟩
  have Q := Lib.hid q3
  have HN := Lib.hid n3
  clear q3 n3
  go_wp2_with fail
  go_ret
  first | exact ⟨q, rfl, Q.out, HN.out⟩ | exact ⟨_, rfl, Q.out, HN.out⟩
theorem push_no (lo : Nat) (p r : Nat → Prop) (g : Nat) (n k : Int) (LL : List (List Int)) (lost : Bool) (P : Nat → Prop) (A : Option Addr) (nk c : Nat) (K : List Int) (x : Int) (w : World) (h : QV lo w p r g n k LL lost) (hv : Sq w P (.slice A nk c) nk (CU K)) (hx0 : chkV n (k - (LL.length : Int)) 17 [K] = x) (hxn : ¬ x = 0) (hx7 : ¬ x = 17) :
    Calls Try.prog 15 #[.pointer (some ⟨g, 0, none⟩), .slice A nk c] w fun e w' => e = .returned (.int .i64 x) ∧ Below w.heap.size w w' := by
  have AD := Lib.hid (add_no lo p r g n k LL lost P A nk c K 17 x w h hv hx0 hxn)
  have hxb : (x == 17) = false := by simpa using hx7
  clear h hv hx0 hxn
  go_enter Try.func15, Try.ntmps15
  go_wp2_with fail
  refine AD.out.mono ?_
  rintro e w3 ⟨rfl, b3⟩
  have B3 := Lib.hid b3
  clear b3
  go_wp2_with fail
  go_ret
  exact ⟨rfl, B3.out⟩
set_option maxRecDepth 100000 in
set_option maxHeartbeats 8000000 in
theorem push_full (lo : Nat) (p r : Nat → Prop) (g : Nat) (n k : Int) (LL : List (List Int)) (lost : Bool) (P : Nat → Prop) (A : Option Addr) (nk c : Nat) (K : List Int) (w : World) (h : QV lo w p r g n k LL lost) (hv : Sq w P (.slice A nk c) nk (CU K)) (hx0 : chkV n (k - (LL.length : Int)) 17 [K] = 17) :
    Calls Try.prog 15 #[.pointer (some ⟨g, 0, none⟩), .slice A nk c] w fun e w' => ∃ q, e = .returned (.int .i64 17) ∧ QV lo w' q r g n k LL true ∧ Nx p q w w' := by
  have AD := Lib.hid (add_no lo p r g n k LL lost P A nk c K 17 17 w h hv hx0 (by decide))
  have HH := Lib.hid h
  clear h hv hx0
  go_enter Try.func15, Try.ntmps15
  go_wp2_with fail
  refine AD.out.mono ?_
  rintro e w3 ⟨rfl, b3⟩
  have h3 := HH.out.below b3
  obtain ⟨Am, cm, S, a, b, c0⟩ := h3.four
  have g3 : w3.cell? ⟨g, 3, none⟩ = some (.bool lost) := by rw [(row_cell a 3).1]; rfl
  have gf : w3.frozen? ⟨g, 3, none⟩ = false := (row_cell a 3).2
  have Q : Hid (∃ q, QV lo (w3.setCell ⟨g, 3, none⟩ (.bool true)) q r g n k LL true ∧ Nx p q w (w3.setCell ⟨g, 3, none⟩ (.bool true))) :=
    HH.out.lay a b c0 (Fo.of_below b3) (fun b1 hb => .inl (b.at_ b1 hb).1) ⟨h3.bd.2.2.2.2.1, h3.bd.2.2.2.2.2⟩ (set_at a 3 _) ((Fo.refl (fun b => b = g) w3).setCell (.inl rfl) 3 _)
  clear b3 h3 a b c0 AD HH
  go_wp2_with fail
  go_ret
  obtain ⟨q, q1, q2⟩ := Q.out
  first | exact ⟨q, rfl, q1, q2⟩ | exact ⟨_, rfl, q1, q2⟩
set_option maxRecDepth 100000 in
set_option maxHeartbeats 8000000 in
theorem clear_any (lo : Nat) (p r : Nat → Prop) (g : Nat) (n k : Int) (LL : List (List Int)) (lost : Bool) (w : World) (h : QV lo w p r g n k LL lost) :
    Calls Try.prog 22 #[.pointer (some ⟨g, 0, none⟩)] w fun e w' => e = .returned (.tuple #[]) ∧ ∃ q, QV lo w' q r g n k [] false ∧ Nx p q w w' := by
  obtain ⟨Am, cm, S, a, b, c⟩ := h.four
  have d0 : w.cell? ⟨g, 0, none⟩ = some (.int .i64 n) := by rw [(row_cell a 0).1]; rfl
  have d1 : w.cell? ⟨g, 1, none⟩ = some (.int .i64 k) := by rw [(row_cell a 1).1]; rfl
  have d2 : w.cell? ⟨g, 2, none⟩ = some (.slice Am LL.length cm) := by rw [(row_cell a 2).1]; rfl
  have d3 : w.cell? ⟨g, 3, none⟩ = some (.bool lost) := by rw [(row_cell a 3).1]; rfl
  have f2 : w.frozen? ⟨g, 2, none⟩ = false := (row_cell a 2).2
  have f3 : w.frozen? ⟨g, 3, none⟩ = false := (row_cell a 3).2
  have Q : Hid (∃ q, QV lo ((w.setCell ⟨g, 2, none⟩ (.slice none 0 0)).setCell ⟨g, 3, none⟩ (.bool false)) q r g n k [] false ∧ Nx p q w ((w.setCell ⟨g, 2, none⟩ (.slice none 0 0)).setCell ⟨g, 3, none⟩ (.bool false))) :=
    h.lay a (Ow.nil 33 w (fun _ => True)) (Ms.nil w r) (Fo.refl p w) (fun b1 hb => by cases hb) ⟨by have := h.bd; simp; omega, fun L hL => by cases hL⟩ (set_at (set_at a 2 _) 3 _) (((Fo.refl (fun b => b = g) w).setCell (.inl rfl) 2 _).setCell (.inl rfl) 3 _)
  obtain ⟨nm, hnm⟩ : ∃ k, LL.length = k := ⟨_, rfl⟩
  rw [hnm] at d2
  clear a b c h hnm
  go_enter Try.func22, Try.ntmps22
  go_wp2_with (first | go_end0)
  try go_end0
  all_goals first | exact ⟨rfl, Q.out⟩ | exact Q.out
set_option maxRecDepth 100000 in
set_option maxHeartbeats 8000000 in
theorem drain_any (lo : Nat) (p r : Nat → Prop) (g : Nat) (n k : Int) (LL : List (List Int)) (lost : Bool) (w : World) (h : QV lo w p r g n k LL lost) :
    Calls Try.prog 19 #[.pointer (some ⟨g, 0, none⟩)] w fun e w' => ∃ v S q, e = .returned v ∧ Ow 33 w' (fun b => p b ∧ ¬ q b) v LL.length (CS S) ∧ Ms w' r S LL ∧ QV lo w' q r g n k [] lost ∧ Nx p q w w' ∧ (∀ b, q b → b = g) := by
  obtain ⟨Am, cm, S, a, b, c⟩ := h.four
  have d0 : w.cell? ⟨g, 0, none⟩ = some (.int .i64 n) := by rw [(row_cell a 0).1]; rfl
  have d1 : w.cell? ⟨g, 1, none⟩ = some (.int .i64 k) := by rw [(row_cell a 1).1]; rfl
  have d2 : w.cell? ⟨g, 2, none⟩ = some (.slice Am LL.length cm) := by rw [(row_cell a 2).1]; rfl
  have d3 : w.cell? ⟨g, 3, none⟩ = some (.bool lost) := by rw [(row_cell a 3).1]; rfl
  have f2 : w.frozen? ⟨g, 2, none⟩ = false := (row_cell a 2).2
  have Q : Hid (Ow 33 (w.setCell ⟨g, 2, none⟩ (.slice none 0 0)) (fun b => p b ∧ ¬ b = g) (.slice Am LL.length cm) LL.length (CS S) ∧ Ms (w.setCell ⟨g, 2, none⟩ (.slice none 0 0)) r S LL ∧ QV lo (w.setCell ⟨g, 2, none⟩ (.slice none 0 0)) (fun b => b = g) r g n k [] lost ∧ Nx p (fun b => b = g) w (w.setCell ⟨g, 2, none⟩ (.slice none 0 0))) := by
    have hf : Fo (fun b => b = g) w (w.setCell ⟨g, 2, none⟩ (.slice none 0 0)) := (Fo.refl (fun b => b = g) w).setCell (.inl rfl) 2 _
    have hty : Ty w (fun b => b = g) := fun b hb _ => by subst hb; exact ⟨_, _, _, a, fun e => ne_uq e.symm⟩
    have hs := set_at a 2 (.slice none 0 0)
    refine ⟨(b.not a ne_sq).fo hf fun b hb => hb.2, c.fot hf hty, ⟨fun b hb => ?_, fun b hb _ => ?_, rfl, ⟨_, [], hs, Ow.nil _ _ _, Ms.nil _ _⟩, ?_⟩, hf.imp fun b _ hb => by rw [hb]; exact h.pg, fun b hb => .inl (by rw [hb]; exact h.pg)⟩
    · subst hb; have := h.low _ h.pg; have := hf.size; omega
    · subst hb; exact ⟨_, _, _, hs, fun e => ne_uq e.symm⟩
    · have := h.bd; simp; omega
  obtain ⟨nm, hnm⟩ : ∃ k, LL.length = k := ⟨_, rfl⟩
  have HNM := Lib.hid hnm
  rw [hnm] at d2
  rw [hnm] at Q ⊢
  clear a b c h hnm
  go_enter Try.func19, Try.ntmps19
  go_wp2_with fail
  go_ret
  obtain ⟨q1, q2, q3, q4⟩ := Q.out
  first | exact ⟨_, S, _, rfl, q1, q2, q3, q4, fun b hb => hb⟩
set_option maxRecDepth 100000 in
set_option maxHeartbeats 8000000 in
theorem all_any (lo : Nat) (p r : Nat → Prop) (g : Nat) (n k : Int) (LL : List (List Int)) (lost : Bool) (w : World) (h : QV lo w p r g n k LL lost) :
    Calls Try.prog 25 #[.pointer (some ⟨g, 0, none⟩)] w fun e w' => ∃ v' S', e = .returned v' ∧ Ow 33 w' (fun b => w.heap.size ≤ b) v' LL.length (CS S') ∧ Ms w' (fun b => w.heap.size ≤ b) S' LL ∧ Below w.heap.size w w' := by
  obtain ⟨Am, cm, S, a, b, c⟩ := h.four
  have d0 : w.cell? ⟨g, 0, none⟩ = some (.int .i64 n) := by rw [(row_cell a 0).1]; rfl
  have d1 : w.cell? ⟨g, 1, none⟩ = some (.int .i64 k) := by rw [(row_cell a 1).1]; rfl
  have d2 : w.cell? ⟨g, 2, none⟩ = some (.slice Am LL.length cm) := by rw [(row_cell a 2).1]; rfl
  have d3 : w.cell? ⟨g, 3, none⟩ = some (.bool lost) := by rw [(row_cell a 3).1]; rfl
  have CC := Lib.hid (cloned_any p r Am LL.length cm S LL w b.sq c.mr (by have := h.bd; omega) (fun L hL => by have := h.bd.2.2.2.2.2 L hL; have := h.bd; omega))
  obtain ⟨nm, hnm⟩ : ∃ k, LL.length = k := ⟨_, rfl⟩
  rw [hnm] at d2 CC ⊢
  clear a b c h hnm d0 d1 d3
  go_enter Try.func25, Try.ntmps25
  go_wp2_with fail
  refine CC.out.mono ?_
  rintro e w2 ⟨v', S', rfl, o2, m2, b2⟩
  have O2 := Lib.hid o2
  have M2 := Lib.hid m2
  have B2 := Lib.hid b2
  clear o2 m2 b2
  go_wp2_with fail
  go_ret
  exact ⟨_, S', rfl, O2.out, M2.out, B2.out⟩
set_option maxRecDepth 100000 in
set_option maxHeartbeats 8000000 in
theorem receive_none (lo : Nat) (p r : Nat → Prop) (g : Nat) (n k : Int) (LL : List (List Int)) (lost : Bool) (w : World) (h : QV lo w p r g n k LL lost) (hL : LL = []) :
    Calls Try.prog 16 #[.pointer (some ⟨g, 0, none⟩)] w fun e w' => ∃ q, e = .returned (.tuple #[.slice none 0 0, .bool false, .bool lost]) ∧ QV lo w' q r g n k [] false ∧ Nx p q w w' := by
  subst hL
  obtain ⟨Am, cm, S, a, b, c⟩ := h.four
  have d0 : w.cell? ⟨g, 0, none⟩ = some (.int .i64 n) := by rw [(row_cell a 0).1]; rfl
  have d1 : w.cell? ⟨g, 1, none⟩ = some (.int .i64 k) := by rw [(row_cell a 1).1]; rfl
  have d2 : w.cell? ⟨g, 2, none⟩ = some (.slice Am 0 cm) := by rw [(row_cell a 2).1]; rfl
  have d3 : w.cell? ⟨g, 3, none⟩ = some (.bool lost) := by rw [(row_cell a 3).1]; rfl
  have f3 : w.frozen? ⟨g, 3, none⟩ = false := (row_cell a 3).2
  have Q : Hid (∃ q, QV lo (w.setCell ⟨g, 3, none⟩ (.bool false)) q r g n k [] false ∧ Nx p q w (w.setCell ⟨g, 3, none⟩ (.bool false))) :=
    h.lay a b c (Fo.refl p w) (fun b1 hb => .inl (b.at_ b1 hb).1) ⟨by have := h.bd; simp; omega, fun L hL => by cases hL⟩ (set_at a 3 _) ((Fo.refl (fun b => b = g) w).setCell (.inl rfl) 3 _)
  clear a b c h
  go_enter Try.func16, Try.ntmps16
  go_wp2_with fail
  go_ret3
  obtain ⟨q, q1, q2⟩ := Q.out
  first | exact ⟨q, rfl, q1, q2⟩ | exact ⟨_, rfl, q1, q2⟩
theorem own_first {P : Nat → Prop} {v : Value} {S : List Sl} {w : World} (h : Ow 33 w P v S.length (CS S)) (hk : 1 ≤ S.length) (hL : S.length ≤ 900) :
    Calls Try.prog 29 #[v, .int .i64 0, .int .i64 1] w fun e w' => ∃ v', e = .returned v' ∧ Ow 33 w' P v' (S.drop 1).length (CS (S.drop 1)) ∧ Fo (fun b => v.ownBlock = some b) w w' ∧ (∀ b, v'.ownBlock = some b → v.ownBlock = some b) := by
  rcases h.form with ⟨_, h0, _⟩ | ⟨b, cap, cur, hv, hp, hb, _⟩
  · omega
  · have hR : RowV w v b S := ⟨h.own, fun k hk => by rw [hv] at hk; injection hk with hk; exact hk.symm⟩
    have := delete_any v b 0 1 S w hR (by omega) hk (by omega)
    refine this.mono ?_
    rintro e w' ⟨v', rfl, r, p⟩
    have hb2 : v.ownBlock = some b := by rw [hv]; rfl
    rw [List.take_zero, List.nil_append] at r
    refine ⟨v', rfl, ⟨r.own, fun j hj => ?_⟩, Fo.of_past p hb2, fun j hj => ?_⟩
    · rw [r.at_ j hj]
      exact ⟨hp, Nat.lt_of_lt_of_le hb p.size⟩
    · rw [r.at_ j hj]; exact hb2
set_option maxRecDepth 100000 in
set_option maxHeartbeats 8000000 in
theorem receive_some (lo : Nat) (p r : Nat → Prop) (g : Nat) (n k : Int) (LL : List (List Int)) (lost : Bool) (L0 : List Int) (LT : List (List Int)) (w : World) (h : QV lo w p r g n k LL lost) (hL : LL = L0 :: LT) :
    Calls Try.prog 16 #[.pointer (some ⟨g, 0, none⟩)] w fun e w' => ∃ A0 c0 q, e = .returned (.tuple #[.slice A0 L0.length c0, .bool true, .bool lost]) ∧ Ow 52 w' r (.slice A0 L0.length c0) L0.length (CU L0) ∧ QV lo w' q r g n k LT false ∧ Nx p q w w' := by
  subst hL
  obtain ⟨Am, cm, S, a, b, c⟩ := h.four
  have d2 : w.cell? ⟨g, 2, none⟩ = some (.slice Am (LT.length + 1) cm) := by rw [(row_cell a 2).1]; rfl
  have d3 : w.cell? ⟨g, 3, none⟩ = some (.bool lost) := by rw [(row_cell a 3).1]; rfl
  have f3 : w.frozen? ⟨g, 3, none⟩ = false := (row_cell a 3).2
  have hSl : S.length = LT.length + 1 := c.len
  obtain ⟨s0, S1, rfl⟩ : ∃ s0 S1, S = s0 :: S1 := by
    match S, hSl with
    | s0 :: S1, _ => exact ⟨s0, S1, rfl⟩
  have hn0 : s0.2.1 = L0.length := c.mr.n (i := 0) rfl rfl
  obtain ⟨A0, m0, c0⟩ := s0
  simp only at hn0
  subst hn0
  have hf1 : Fo (fun b => b = g) w (w.setCell ⟨g, 3, none⟩ (.bool false)) := (Fo.refl (fun b => b = g) w).setCell (.inl rfl) 3 _
  have hty : Ty w (fun b => b = g) := fun b hb _ => by subst hb; exact ⟨_, _, _, a, fun e => ne_uq e.symm⟩
  have a1 := set_at a 3 (.bool false)
  have b1 : Ow 33 (w.setCell ⟨g, 3, none⟩ (.bool false)) (fun b => p b ∧ b ≠ g) (.slice Am (LT.length + 1) cm) (LT.length + 1) (CS ((A0, L0.length, c0) :: S1)) := (b.not a ne_sq).fo hf1 fun b hb => hb.2
  have c1 := c.fot hf1 hty
  rw [show LT.length + 1 = ((A0, L0.length, c0) :: S1).length from hSl.symm] at b1
  have DL := Lib.hid (own_first b1 (by simp) (by have := h.bd; simp at this hSl ⊢; omega))
  have hown : ∃ b0, (Value.slice Am ((A0, L0.length, c0) :: S1).length cm).ownBlock = some b0 ∧ (w.setCell ⟨g, 3, none⟩ (.bool false)).cell? ⟨b0, 0, none⟩ = some (.slice A0 L0.length c0) ∧ Am = some ⟨b0, 0, none⟩ ∧ ∃ cur fr, (w.setCell ⟨g, 3, none⟩ (.bool false)).heap[b0]? = some (.cells cur 33 fr) := by
    rcases b1.form with ⟨_, h0, _⟩ | ⟨b2, cap, cur, hv, hp, hb, hg, h1, h2, h3, h4⟩
    · simp at h0
    · refine ⟨b2, by rw [hv]; rfl, ?_, by injection hv, cur, (0, 0), hg⟩
      rw [(row_cell hg 0).1]
      have h5 : (CS ((A0, L0.length, c0) :: S1))[0]? = some (.slice A0 L0.length c0) := rfl
      rw [← h4, List.getElem?_take_of_lt (by simp), Array.getElem?_toList] at h5
      exact h5
  obtain ⟨b0, hob, hc0, hAm, cur0, fr0, hg0⟩ := hown
  subst hAm
  have HH := Lib.hid h
  have H1 : Hid (((w.setCell ⟨g, 3, none⟩ (.bool false))).heap[g]? = some (.cells #[.int .i64 n, .int .i64 k, .slice (some ⟨b0, 0, none⟩) (LT.length + 1) cm, .bool false] 61 (0, 0)) ∧ Ms (w.setCell ⟨g, 3, none⟩ (.bool false)) r ((A0, L0.length, c0) :: S1) (L0 :: LT) ∧ Fo (fun b => b = g) w (w.setCell ⟨g, 3, none⟩ (.bool false)) ∧ b0 ≠ g ∧ p b0 ∧ Ty (w.setCell ⟨g, 3, none⟩ (.bool false)) (fun b => b = b0)) := by
    refine ⟨a1, c1, hf1, ?_, ?_, fun b hb _ => ?_⟩
    · rintro rfl
      rw [hg0] at a1
      injection a1 with a1
      injection a1 with _ h2
      exact ne_sq h2
    · exact ((b1.at_ b0 hob).1).1
    · subst hb; exact ⟨_, _, _, hg0, fun e => ne_us e.symm⟩
  have HOB := Lib.hid hob
  obtain ⟨nm, hnm⟩ : ∃ k, LT.length + 1 = k := ⟨_, rfl⟩
  have hnm2 : ((A0, L0.length, c0) :: S1).length = nm := by rw [← hnm]; exact hSl
  rw [hnm2] at DL HOB
  have hnz : ((nm : Int) == 0) = false := by rw [beq_eq_false_iff_ne]; omega
  have hnz2 : ¬ (nm : Int) = 0 := by omega
  have hpos : (0 : Int) < (nm : Int) := by omega
  have HNM : Hid (LT.length + 1 = nm) := hnm
  rw [hnm] at d2 H1
  have e2 : (w.setCell ⟨g, 3, none⟩ (.bool false)).cell? ⟨g, 2, none⟩ = some (.slice (some ⟨b0, 0, none⟩) nm cm) := by rw [(row_cell H1.out.1 2).1]; rfl
  clear a b c h hSl hf1 hty a1 b1 c1 hob hg0 hnm2 hnm
  go_enter Try.func16, Try.ntmps16
  go_wp2_with fail
  refine DL.out.mono ?_
  rintro e w2 ⟨v', rfl, o2, f2, v2⟩
  obtain ⟨h1a, h1b, h1c, h1d, h1e, h1f⟩ := H1.out
  have hf2 : Fo (fun b => b = b0) (w.setCell ⟨g, 3, none⟩ (.bool false)) w2 := f2.imp fun b _ hb => by rw [HOB.out] at hb; injection hb with hb; exact hb.symm
  have hg2 : w2.heap[g]? = some (.cells #[.int .i64 n, .int .i64 k, .slice (some ⟨b0, 0, none⟩) nm cm, .bool false] 61 (0, 0)) := (hf2.block g (Array.getElem?_eq_some_iff.1 h1a).1 (fun e => h1d e.symm)).trans h1a
  have hm2 := h1b.fot hf2 h1f
  have hty2 : Ty w2 (fun b => b = g) := fun b hb _ => by subst hb; exact ⟨_, _, _, hg2, fun e => ne_uq e.symm⟩
  obtain ⟨A', c', hv'⟩ := o2.sl
  subst hv'
  have ff : Fo (fun b => b = g) w2 (w2.setCell ⟨g, 2, none⟩ (.slice A' (List.drop 1 ((A0, L0.length, c0) :: S1)).length c')) := (Fo.refl (fun b => b = g) w2).setCell (.inl rfl) 2 _
  have Q : Hid ((∃ q, QV lo (w2.setCell ⟨g, 2, none⟩ (.slice A' (List.drop 1 ((A0, L0.length, c0) :: S1)).length c')) q r g n k LT false ∧ Nx p q w (w2.setCell ⟨g, 2, none⟩ (.slice A' (List.drop 1 ((A0, L0.length, c0) :: S1)).length c'))) ∧ Ow 52 (w2.setCell ⟨g, 2, none⟩ (.slice A' (List.drop 1 ((A0, L0.length, c0) :: S1)).length c')) r (.slice A0 L0.length c0) L0.length (CU L0)) := by
    refine ⟨HH.out.lay hg2 o2 (hm2.drop 1) ((h1c.imp fun b _ hb => by rw [hb]; exact HH.out.pg).trans hf2 fun i hi => .inl (by rw [hi]; exact h1e)) (fun b hb => .inl ?_) ⟨?_, fun L hL => HH.out.bd.2.2.2.2.2 L (List.mem_cons_of_mem _ hL)⟩ (set_at hg2 2 _) ff, ?_⟩
    · have := v2 b hb
      rw [HOB.out] at this
      injection this with this
      rw [← this]; exact h1e
    · have := HH.out.bd; simp at this; simp; omega
    · exact (hm2.fot ff hty2).at_ 0 _ _ rfl rfl
  have g2 : w2.cell? ⟨g, 2, none⟩ = some (.slice (some ⟨b0, 0, none⟩) nm cm) := by rw [(row_cell hg2 2).1]; rfl
  have gf : w2.frozen? ⟨g, 2, none⟩ = false := (row_cell hg2 2).2
  clear o2 f2 v2 h1a h1b h1c h1d h1e h1f hf2 hg2 hm2 hty2 ff DL H1
  go_wp2_with fail
  go_ret3
  obtain ⟨⟨q, q1, q2⟩, q3⟩ := Q.out
  first | exact ⟨A0, c0, q, rfl, q3, q1, q2⟩ | exact ⟨_, _, _, rfl, q3, q1, q2⟩
theorem free_nil (w : World) : Calls Try.prog 26 #[.pointer none] w fun e w' => e = .returned (.int .i64 0) ∧ w' = w := by
  go_enter Try.func26, Try.ntmps26
  go_wp2_with fail
  go_ret
  exact ⟨rfl, rfl⟩
theorem drain_nil (w : World) : Calls Try.prog 19 #[.pointer none] w fun e w' => e = .returned (.slice none 0 0) ∧ w' = w := by
  go_enter Try.func19, Try.ntmps19
  go_wp2_with fail
  go_ret
  exact ⟨rfl, rfl⟩
theorem all_nil (w : World) : Calls Try.prog 25 #[.pointer none] w fun e w' => e = .returned (.slice none 0 0) ∧ w' = w := by
  go_enter Try.func25, Try.ntmps25
  go_wp2_with fail
  go_ret
  exact ⟨rfl, rfl⟩
theorem clone_nil (w : World) : Calls Try.prog 23 #[.pointer none] w fun e w' => e = .returned (.pointer none) ∧ w' = w := by
  go_enter Try.func23, Try.ntmps23
  go_wp2_with fail
  go_ret
  exact ⟨rfl, rfl⟩
theorem same_nil (w : World) : Calls Try.prog 24 #[.pointer none, .pointer none] w fun e w' => e = .returned (.bool true) ∧ w' = w := by
  go_enter Try.func24, Try.ntmps24
  go_wp2_with fail
  go_ret
  exact ⟨rfl, rfl⟩
theorem receive_nil (w : World) : Calls Try.prog 16 #[.pointer none] w fun e w' => e = .returned (.tuple #[.slice none 0 0, .bool false, .bool false]) ∧ w' = w := by
  go_enter Try.func16, Try.ntmps16
  go_wp2_with fail
  go_ret3
  exact ⟨rfl, rfl⟩
theorem clear_nil (w : World) : Calls Try.prog 22 #[.pointer none] w fun e w' => e = .returned (.tuple #[]) ∧ w' = w := by
  go_enter Try.func22, Try.ntmps22
  go_wp2_with (first | go_end0)
  try go_end0
  all_goals first | exact ⟨rfl, rfl⟩ | rfl
theorem same_nil_l (g : Nat) (w : World) : Calls Try.prog 24 #[.pointer none, .pointer (some ⟨g, 0, none⟩)] w fun e w' => e = .returned (.bool false) ∧ w' = w := by
  have he : ∀ w : World, (binOp .eql 23 (.pointer none) (.pointer (some ⟨g, 0, none⟩))).run Try.prog w = .ok (.bool false) w := fun _ => rfl
  go_enter Try.func24, Try.ntmps24
  go_wp2_with fail
  go_ret
  exact ⟨rfl, rfl⟩
theorem check_nil (f : Int) (v : Value) (w : World) : Calls Try.prog 30 #[.pointer none, .int .i64 f, v] w fun e w' => e = .returned (.int .i64 1) ∧ w' = w := by
  go_enter Try.func30, Try.ntmps30
  go_wp2_with fail
  apply wp_scope_straight
  go_wp2_with fail
  unfold Exit.noGoto
  go_ret
  exact ⟨rfl, rfl⟩
theorem add_nil (f : Int) (A : Option Addr) (m c : Nat) (w : World) : Calls Try.prog 28 #[.pointer none, .int .i64 f, .slice A m c] w fun e w' => e = .returned (.int .i64 1) ∧ Below w.heap.size w w' := by
  have CN := Lib.hid (check_nil f (.slice (some ⟨w.heap.size, 0, none⟩) 1 1) (w.alloc (.cells #[.slice A m c] 33)))
  have HB : Hid (Below w.heap.size w (w.alloc (.cells #[.slice A m c] 33))) := (Below.refl _ _).alloc (Nat.le_refl _) _
  go_enter Try.func28, Try.ntmps28
  go_wp2_with fail
  refine CN.out.mono ?_
  rintro e w2 ⟨rfl, hw⟩
  have hw := hw.symm
  subst hw
  go_wp2_with fail
  go_ret
  exact ⟨rfl, HB.out⟩
theorem send_nil (A : Option Addr) (m c : Nat) (w : World) : Calls Try.prog 14 #[.pointer none, .slice A m c] w fun e w' => e = .returned (.int .i64 1) ∧ Below w.heap.size w w' := by
  have AN := Lib.hid (add_nil 8 A m c w)
  go_enter Try.func14, Try.ntmps14
  go_wp2_with fail
  refine AN.out.mono ?_
  rintro e w2 ⟨rfl, b2⟩
  have B2 := Lib.hid b2
  clear b2
  go_wp2_with fail
  go_ret
  exact ⟨rfl, B2.out⟩
theorem push_nil (A : Option Addr) (m c : Nat) (w : World) : Calls Try.prog 15 #[.pointer none, .slice A m c] w fun e w' => e = .returned (.int .i64 1) ∧ Below w.heap.size w w' := by
  have AN := Lib.hid (add_nil 17 A m c w)
  go_enter Try.func15, Try.ntmps15
  go_wp2_with fail
  refine AN.out.mono ?_
  rintro e w2 ⟨rfl, b2⟩
  have B2 := Lib.hid b2
  clear b2
  go_wp2_with fail
  go_ret
  exact ⟨rfl, B2.out⟩
theorem back_nil (v : Value) (w : World) : Calls Try.prog 21 #[.pointer none, v] w fun e w' => e = .returned (.int .i64 1) ∧ w' = w := by
  have CN := Lib.hid (check_nil 8 v w)
  go_enter Try.func21, Try.ntmps21
  go_wp2_with fail
  refine CN.out.mono ?_
  rintro e w2 ⟨rfl, hw⟩
  have hw := hw.symm
  subst hw
  go_wp2_with fail
  go_ret
  exact ⟨rfl, rfl⟩
end Go.Proofs.Ytejambofnffopaa.Q
