/-
  Locks: Leave, of one who doesn't wait. Each statement bears its own conditions.
-/
import Derived.Test.YtbnnpfhgpbaedaaLkD
namespace Go.Proofs.Ytbnnpfhgpbaedaa.K
open Go.RowKit Go.Maps
set_option linter.unusedVariables false
set_option linter.unusedSimpArgs false
set_option maxRecDepth 100000 in
set_option maxHeartbeats 2000000 in
theorem leave_none (lo g bc bw bm N : Nat) (rb : Nat → Nat) (cs : List Int) (ws : Nat → List (Int × Int)) (os : Int → Option Int) (id : Int) (w : World) (h : LV lo w g bc bw bm N rb cs ws os) (hn : cs.length ≤ 16) (hl : ∀ i, i < cs.length → (ws i).length ≤ 900) (hq : NoId ws cs.length id) :
    Calls Try.prog 19 #[.pointer (some ⟨g, 0, none⟩), .int .i64 id] w fun e w' => e = .returned (.bool false) ∧ LV lo w' g bc bw bm N rb cs ws os ∧ Lx bw bm cs.length rb rb w w' := by
  have FI := Lib.hid (find_any lo g bc bw bm N rb cs ws os id w h hn (fun i hi => by have := hl i hi; omega))
  have H := Lib.hid h
  have HQ := Lib.hid hq
  clear h hn hl hq
  go_enter Try.func19, Try.ntmps19
  go_wp2_with fail
  refine FI.out.mono ?_
  rintro e w1 ⟨i, j, b, rfl, f1, b1⟩
  have hb : b = false := by rw [f1.no]; simp [HQ.out]
  subst hb
  have H1 := Lib.hid (H.out.below b1)
  have X1 : Hid (Lx bw bm cs.length rb rb w w1) := Lx.of_below b1
  clear b1 f1 FI
  go_wp2_with fail
  go_ret
  exact ⟨rfl, H1.out, X1.out⟩
end Go.Proofs.Ytbnnpfhgpbaedaa.K
