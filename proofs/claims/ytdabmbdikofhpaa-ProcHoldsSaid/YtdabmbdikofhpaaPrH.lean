/-
  A table of one process, from a world on; what its methods do. Each statement bears its own conditions.
-/
import Derived.Test.YtdabmbdikofhpaaPrE
import Derived.Test.YtdabmbdikofhpaaPrF
import Derived.Test.YtdabmbdikofhpaaPrG
namespace Go.Proofs.Ytdabmbdikofhpaa.P
open Go.RowKit
set_option linter.unusedVariables false
set_option linter.unusedSimpArgs false
/-- A table of one process, made since w0. -/
structure T1 (w0 w : World) (p rb : Nat) (x : MP) : Prop where
  pt : ∃ hi, PT w0.heap.size hi w p rb [x]
  b : Below w0.heap.size w0 w
  ok : Ok x
section
variable {w0 w w' : World} {p rb : Nat} {x y : MP} {t : Int}
theorem T1.step {hi : Nat} (h : T1 w0 w p rb x) (hp : PT w0.heap.size hi w' p rb [y]) (hq : Past rb w w') (ho : Ok y) : T1 w0 w' p rb y :=
  ⟨⟨hi, hp⟩, h.b.trans (hq.below hp.hr.1 h.b.size), ho⟩
theorem T1.below (h : T1 w0 w p rb x) (hb : Below w.heap.size w w') : T1 w0 w' p rb x := by
  obtain ⟨hi, hp⟩ := h.pt
  exact ⟨⟨hi, hp.below hb⟩, h.b.trans (hb.mono h.b.size), h.ok⟩
theorem start1 (h : T1 w0 w p rb x) (ht : TK t) (hb : dormB x = true) :
    Calls Try.prog 14 #[.pointer (some ⟨p, 0, none⟩), .int .i64 0, .int .i64 t] w fun e w' => e = .returned (.int .i64 0) ∧ T1 w0 w' p rb (startP x t) := by
  obtain ⟨hi, hp⟩ := h.pt
  exact (start_ok _ hi p rb [x] 0 x t w hp rfl h.ok (by simp) ht hb).mono fun e w' q => ⟨q.1, h.step q.2.1 q.2.2 (h.ok.start ht)⟩
theorem done1 (h : T1 w0 w p rb x) (ht : TK t) (hb : readyB x = true) :
    Calls Try.prog 22 #[.pointer (some ⟨p, 0, none⟩), .int .i64 0, .int .i64 t] w fun e w' => e = .returned (.tuple #[.int .i64 (doneN x), .int .i64 0]) ∧ T1 w0 w' p rb (doneP x t) := by
  obtain ⟨hi, hp⟩ := h.pt
  exact (done_ok _ hi p rb [x] 0 x t w hp rfl h.ok (by simp) ht hb).mono fun e w' q => ⟨q.1, h.step q.2.1 q.2.2 (h.ok.done ht)⟩
theorem done1_state (h : T1 w0 w p rb x) (ht : TK t) (hb : readyB x = false) :
    Calls Try.prog 22 #[.pointer (some ⟨p, 0, none⟩), .int .i64 0, .int .i64 t] w fun e w' => e = .returned (.tuple #[.int .i64 0, .int .i64 10]) ∧ T1 w0 w' p rb x := by
  obtain ⟨hi, hp⟩ := h.pt
  exact (done_state _ hi p rb [x] 0 x t w hp rfl (by simp) ht hb).mono fun e w' q => ⟨q.1, h.below q.2⟩
theorem TK.of_unt {x : MP} {t : Int} (hd : dueB x t = true) (ht : TK t) (h0 : 0 ≤ x.unt) : TK x.unt := by
  simp [dueB] at hd
  exact ⟨h0, Int.le_trans hd.2 ht.2⟩
theorem release1 (h : T1 w0 w p rb x) (ht : TK t) (hb : dueB x t = true) (h0 : 0 ≤ x.unt) :
    Calls Try.prog 21 #[.pointer (some ⟨p, 0, none⟩), .int .i64 0, .int .i64 t] w fun e w' => e = .returned (.int .i64 0) ∧ T1 w0 w' p rb (beginP x x.unt) := by
  obtain ⟨hi, hp⟩ := h.pt
  exact (release_ok _ hi p rb [x] 0 x t w hp rfl h.ok (by simp) ht hb).mono fun e w' q => ⟨q.1, h.step q.2.1 q.2.2 (h.ok.begin_ (TK.of_unt hb ht h0))⟩
theorem release1_state (h : T1 w0 w p rb x) (ht : TK t) (hb : dueB x t = false) :
    Calls Try.prog 21 #[.pointer (some ⟨p, 0, none⟩), .int .i64 0, .int .i64 t] w fun e w' => e = .returned (.int .i64 10) ∧ T1 w0 w' p rb x := by
  obtain ⟨hi, hp⟩ := h.pt
  exact (release_state _ hi p rb [x] 0 x t w hp rfl h.ok (by simp) ht hb).mono fun e w' q => ⟨q.1, h.below q.2⟩
theorem charge1_over (h : T1 w0 w p rb x) (ht : TK t) (hb : hasB x = true) (hv : overB (chargeP x t) = true) :
    Calls Try.prog 25 #[.pointer (some ⟨p, 0, none⟩), .int .i64 0, .int .i64 t] w fun e w' => e = .returned (.int .i64 16) ∧ T1 w0 w' p rb (chargeP x t) := by
  obtain ⟨hi, hp⟩ := h.pt
  exact (charge_over _ hi p rb [x] 0 x t w hp rfl h.ok (by simp) ht hb hv).mono fun e w' q => ⟨q.1, h.step q.2.1 q.2.2 (h.ok.charge ht)⟩
theorem charge1_fine (h : T1 w0 w p rb x) (ht : TK t) (hb : hasB x = true) (hv : overB (chargeP x t) = false) :
    Calls Try.prog 25 #[.pointer (some ⟨p, 0, none⟩), .int .i64 0, .int .i64 t] w fun e w' => e = .returned (.int .i64 0) ∧ T1 w0 w' p rb (chargeP x t) := by
  obtain ⟨hi, hp⟩ := h.pt
  exact (charge_fine _ hi p rb [x] 0 x t w hp rfl h.ok (by simp) ht hb hv).mono fun e w' q => ⟨q.1, h.step q.2.1 q.2.2 (h.ok.charge ht)⟩
theorem charge1 (h : T1 w0 w p rb x) (ht : TK t) (hb : hasB x = true) :
    Calls Try.prog 25 #[.pointer (some ⟨p, 0, none⟩), .int .i64 0, .int .i64 t] w fun e w' => e = .returned (.int .i64 (if overB (chargeP x t) then 16 else 0)) ∧ T1 w0 w' p rb (chargeP x t) := by
  rcases hv : overB (chargeP x t) with _ | _
  · exact charge1_fine h ht hb hv
  · exact charge1_over h ht hb hv
theorem left1 (h : T1 w0 w p rb x) :
    Calls Try.prog 26 #[.pointer (some ⟨p, 0, none⟩), .int .i64 0] w fun e w' => e = .returned (.int .i64 (leftN x)) ∧ T1 w0 w' p rb x := by
  obtain ⟨hi, hp⟩ := h.pt
  exact (left_ok _ hi p rb [x] 0 x w hp rfl (by simp) h.ok).mono fun e w' q => ⟨q.1, h.below q.2⟩
theorem state1 (h : T1 w0 w p rb x) :
    Calls Try.prog 19 #[.pointer (some ⟨p, 0, none⟩), .int .i64 0] w fun e w' => e = .returned (.int .i64 (stateN x)) ∧ T1 w0 w' p rb x := by
  obtain ⟨hi, hp⟩ := h.pt
  exact (state_ok _ hi p rb [x] 0 x w hp rfl (by simp)).mono fun e w' q => ⟨q.1, h.below q.2⟩
theorem until1 (h : T1 w0 w p rb x) (h3 : x.sta = 3) (h0 : 0 ≤ x.unt) :
    Calls Try.prog 20 #[.pointer (some ⟨p, 0, none⟩), .int .i64 0] w fun e w' => e = .returned (.tuple #[.int .i64 x.unt, .bool true]) ∧ T1 w0 w' p rb x := by
  obtain ⟨hi, hp⟩ := h.pt
  have hc : (x.sta = 3 ∨ x.sta = 2) ∧ x.unt ≠ -1 := ⟨.inl h3, by omega⟩
  exact (untl_ok _ hi p rb [x] 0 x w hp rfl (by simp)).mono fun e w' q => ⟨by rw [q.1, if_pos hc]; simp [hc], h.below q.2⟩
end
/-- A list of one attribute, made by a statement. -/
theorem one_attr (a : AT) (w : World) (B : Nat) (hB : w.heap.size < B) : St B (w.alloc (.cells a.cells.toArray 48)) 5 (.slice (some ⟨w.heap.size, 0, none⟩) 1 1) 1 (CT [a]) := by
  refine ⟨⟨some ⟨w.heap.size, 0, none⟩, 1, rfl, rfl, fun _ => ⟨w.heap.size, 0, rfl, by simp, by omega, fun j u hu => ?_⟩⟩⟩
  rw [(row_cell (heap_alloc_new w _) _).1, Nat.zero_add]
  simpa [CT] using hu
/-- New of one process. -/
def New1 (a : AT) (w : World) (e : Ending) (w' : World) : Prop :=
  (fitsA a = false → e = .returned (.tuple #[.pointer none, .int .i64 2])) ∧ (fitsA a = true → ∃ p rb, e = .returned (.tuple #[.pointer (some ⟨p, 0, none⟩), .int .i64 0]) ∧ T1 w w' p rb (freshP a)) ∧ Below w.heap.size w w'
theorem new1 (a : AT) (w : World) : Calls Try.prog 18 #[.slice (some ⟨w.heap.size, 0, none⟩) 1 1] (w.alloc (.cells a.cells.toArray 48)) (New1 a w) := by
  have h := one_attr a w (w.heap.size + 1) (by omega)
  refine (new_any _ _ 1 1 [a] _ h rfl (by unfold maxLen; omega)).mono fun e w' q => ?_
  have hb : Below w.heap.size w w' := ((Below.refl _ _).alloc (Nat.le_refl _) _).trans (q.2.2.mono (by simp))
  refine ⟨fun hf => ?_, fun hf => ?_, hb⟩
  · have : newE [a] = 2 := by simp [newE, hf]
    rw [q.1 (by rw [this]; decide), this]
  · have : newE [a] = 0 := by simp [newE, hf]
    obtain ⟨p, rb, h1, h2⟩ := q.2.1 this
    refine ⟨p, rb, h1, ⟨w'.heap.size, ?_⟩, hb, Ok.fresh hf⟩
    have h3 : PT _ _ w' p rb [freshP a] := h2
    exact ⟨h3.hs, ⟨by have := h3.hp.1; simp at this; omega, h3.hp.2⟩, ⟨by have := h3.hr.1; simp at this; omega, h3.hr.2⟩, h3.ne, h3.each, by
      obtain ⟨cap, e1, e2⟩ := h3.ex
      exact ⟨cap, e1, own_base' e2 (by simp)⟩⟩
end Go.Proofs.Ytdabmbdikofhpaa.P
