/-
  New, Put, Front, and what is refused. Each statement bears its own conditions.
-/
import Derived.Test.YtbkjcjkbicaibaaLine
namespace Go.Proofs.Ytbkjcjkbicaibaa
open Go.RowKit
set_option linter.unusedVariables false
set_option linter.unusedSimpArgs false
def hasL (Ls : Nat → List Int) (id : Int) : Bool := (List.range 64).any fun p => decide (id ∈ Ls p)
theorem hasL_iff {Ls : Nat → List Int} {id : Int} : hasL Ls id = true ↔ ∃ p, p < 64 ∧ id ∈ Ls p := by
  unfold hasL; simp [List.any_eq_true]
theorem hasL_not {Ls : Nat → List Int} {id : Int} : hasL Ls id = false ↔ ∀ p, p < 64 → id ∉ Ls p := by
  unfold hasL; simp [List.any_eq_false]
def vld (pr : Int) : Bool := decide (0 ≤ pr ∧ pr < 64)
theorem valid_any (pr : Int) (w : World) : Calls Try.prog 36 #[.int .i64 pr] w fun e w' => e = .returned (.bool (vld pr)) ∧ w' = w := by
  unfold vld
  by_cases h0 : 0 ≤ pr
  · by_cases h1 : pr < 64
    · rw [decide_eq_true ⟨h0, h1⟩]
      go_enter Try.func36, Try.ntmps36
      go_wp2_with fail
      go_ret
      exact ⟨by simp [h1], rfl⟩
    · rw [decide_eq_false (fun h => h1 h.2)]
      go_enter Try.func36, Try.ntmps36
      go_wp2_with fail
      go_ret
      exact ⟨by simp [h1], rfl⟩
  · rw [decide_eq_false (fun h => h0 h.1)]
    go_enter Try.func36, Try.ntmps36
    go_wp2_with fail
    go_ret
    exact ⟨rfl, rfl⟩
/-- What an id's coming is answered with. -/
def rfz (Ls : Nat → List Int) (id pr : Int) : Int := if id < 0 then 2 else if vld pr = false then 2 else if hasL Ls id = true then 7 else 0
theorem refuse_nil (id pr : Int) (w : World) : Calls Try.prog 30 #[.pointer none, .int .i64 id, .int .i64 pr] w fun e w' => e = .returned (.int .i64 1) ∧ w' = w := by
  have he : ∀ (w : World), (binOp .eql 23 (.pointer none) (.pointer none)).run Try.prog w = .ok (.bool true) w := fun _ => rfl
  go_enter Try.func30, Try.ntmps30
  go_wp2_with fail
  go_ret
  exact ⟨rfl, rfl⟩
set_option maxRecDepth 100000 in
theorem refuse_any (g : Nat) (rb : Nat → Nat) (Ls : Nat → List Int) (id pr : Int) (w : World) (h : LF w g rb Ls) (hs : Sm Ls) :
    Calls Try.prog 30 #[.pointer (some ⟨g, 0, none⟩), .int .i64 id, .int .i64 pr] w fun e w' => e = .returned (.int .i64 (rfz Ls id pr)) ∧ w' = w := by
  have he : ∀ (x : Nat) (w : World), (binOp .eql 23 (.pointer (some ⟨x, 0, none⟩)) (.pointer none)).run Try.prog w = .ok (.bool false) w := fun _ _ => rfl
  have FD := Lib.hid (find_any g rb Ls id w h hs)
  have VL := Lib.hid (valid_any pr w)
  clear h hs
  obtain ⟨r, hr⟩ : ∃ r : Int, rfz Ls id pr = r := ⟨_, rfl⟩
  rw [hr]
  unfold rfz at hr
  have HR := Lib.hid hr
  clear hr
  by_cases h0 : id < 0
  · have hr : r = 2 := by rw [← HR.out, if_pos h0]
    subst hr
    go_enter Try.func30, Try.ntmps30
    go_wp2_with fail
    go_ret
    exact ⟨rfl, rfl⟩
  · obtain ⟨b, hb⟩ : ∃ b, vld pr = b := ⟨_, rfl⟩
    rw [hb] at VL HR
    clear hb
    have h0h := Lib.hid h0
    cases b with
    | false =>
      have hr : r = 2 := by rw [← HR.out, if_neg h0, if_pos rfl]
      subst hr
      go_enter Try.func30, Try.ntmps30
      go_wp2_with fail
      refine VL.out.mono ?_
      rintro e w' ⟨rfl, rfl⟩
      go_wp2_with fail
      go_ret
      exact ⟨rfl, rfl⟩
    | true =>
      go_enter Try.func30, Try.ntmps30
      go_wp2_with fail
      refine VL.out.mono ?_
      rintro e w' ⟨rfl, rfl⟩
      go_wp2_with fail
      refine FD.out.mono ?_
      rintro e w2 ⟨hf, rfl⟩
      rcases hf with ⟨p, i, hp, hi, hx, rfl⟩ | ⟨hno, rfl⟩
      · have hr : Hid (r = 7) := by
          unfold Hid
          rw [← HR.out, if_neg (show ¬ id < 0 by have := h0h.out; omega), if_neg (by simp), if_pos (hasL_iff.2 ⟨p, hp, by
            rw [← hx, List.getD_eq_getElem?_getD, List.getElem?_eq_getElem hi]; exact List.getElem_mem hi⟩)]
        clear hp hi hx
        go_wp2_with fail
        go_ret
        exact ⟨by rw [hr.out]; rfl, rfl⟩
      · have hr : Hid (r = 0) := by
          unfold Hid
          rw [← HR.out, if_neg (show ¬ id < 0 by have := h0h.out; omega), if_neg (by simp), if_neg (by rw [hasL_not.2 hno]; simp)]
        clear hno
        go_wp2_with fail
        go_ret
        exact ⟨by rw [hr.out]; rfl, rfl⟩
theorem zero53 (w : World) : (zeroValue 53).run Try.prog w = .ok (.agg (Value.int .u64 0 :: List.replicate 64 (Value.slice none 0 0)).toArray) w := by kernel_rfl
theorem lf_new (w : World) (cs : Array Value) (hc : cs = (Value.int .u64 0 :: List.replicate 64 (Value.slice none 0 0)).toArray) : LF (w.alloc (.cells cs 53)) w.heap.size (fun _ => w.heap.size) (fun _ => []) := by
  subst hc
  refine ⟨by simp, fun o => by simp, ⟨0, by omega, fun p hp => by simp, by rw [World.cell?_alloc_new]; rfl⟩, fun p hp => ⟨.slice none 0 0, ?_, ⟨⟨rfl, .inl ⟨rfl, rfl⟩⟩, fun b hb => by cases hb⟩, .inl ⟨rfl, rfl⟩⟩, fun p q _ _ _ h => absurd rfl h⟩
  rw [World.cell?_alloc_new]
  show (Value.int .u64 0 :: List.replicate 64 (Value.slice none 0 0)).toArray[1 + p]? = _
  rw [List.getElem?_toArray, show 1 + p = p + 1 by omega, List.getElem?_cons_succ, List.getElem?_replicate]
  simp [hp]
theorem new_any (w : World) : Calls Try.prog 9 #[] w fun e w' => e = .returned (.pointer (some ⟨w.heap.size, 0, none⟩)) ∧ LF w' w.heap.size (fun _ => w.heap.size) (fun _ => []) ∧ Below w.heap.size w w' := by
  obtain ⟨cs, hz, hc⟩ : ∃ cs : Array Value, (∀ w, (zeroValue 53).run Try.prog w = .ok (.agg cs) w) ∧ cs = (Value.int .u64 0 :: List.replicate 64 (Value.slice none 0 0)).toArray := ⟨_, zero53, rfl⟩
  have HC := Lib.hid hc
  clear hc
  go_enter Try.func9, Try.ntmps9
  go_wp2_with fail
  go_ret
  exact ⟨rfl, lf_new w cs HC.out, (Below.refl _ _).alloc (Nat.le_refl _) _⟩
/-- Whatever was a list's own may have changed, and what is new. -/
structure ChL (g : Nat) (rb : Nat → Nat) (w w' : World) : Prop where
  os : w'.os = w.os
  tape : w'.tape = w.tape
  output : w'.output = w.output
  size : w.heap.size ≤ w'.heap.size
  block : ∀ k, k < w.heap.size → k ≠ g → (∀ p, p < 64 → k ≠ rb p) → w'.heap[k]? = w.heap[k]?
/-- A list's next state. -/
structure Nx (w w' : World) (g : Nat) (rb rb' : Nat → Nat) (Ls : Nat → List Int) : Prop where
  lf : LF w' g rb' Ls
  fr : ∀ p, p < 64 → rb' p = rb p ∨ w.heap.size ≤ rb' p
  ch : ChL g rb w w'
theorem ChL.of_below {g : Nat} {rb : Nat → Nat} {w w' : World} (h : Below w.heap.size w w') : ChL g rb w w' := ⟨h.os, h.tape, h.output, h.size, fun k hk _ _ => h.block k hk⟩
theorem ChL.of_ch {g p : Nat} {rb : Nat → Nat} {w w' : World} (h : Ch g (rb p) w w') (hp : p < 64) : ChL g rb w w' := ⟨h.os, h.tape, h.output, h.size, fun k hk h1 h2 => h.block k hk h1 (h2 p hp)⟩
theorem ChL.below {g B : Nat} {rb : Nat → Nat} {w w' : World} (h : ChL g rb w w') (hg : B ≤ g) (hr : ∀ p, p < 64 → B ≤ rb p) (hB : B ≤ w.heap.size) : Below B w w' := ⟨h.os, h.tape, h.output, h.size, fun k hk => h.block k (by omega) (by omega) (fun p hp => by have := hr p hp; omega)⟩
theorem Nx.same {w w' : World} {g : Nat} {rb : Nat → Nat} {Ls : Nat → List Int} (h : LF w g rb Ls) (b : Below w.heap.size w w') : Nx w w' g rb rb Ls := ⟨h.below b, fun _ _ => .inl rfl, .of_below b⟩
theorem Nx.trans {a b c : World} {g : Nat} {r0 r1 r2 : Nat → Nat} {L1 L2 : Nat → List Int} (h : Nx a b g r0 r1 L1) (k : Nx b c g r1 r2 L2) : Nx a c g r0 r2 L2 := by
  refine ⟨k.lf, fun p hp => ?_, ⟨k.ch.os.trans h.ch.os, k.ch.tape.trans h.ch.tape, k.ch.output.trans h.ch.output, Nat.le_trans h.ch.size k.ch.size, fun i hi h1 h2 => ?_⟩⟩
  · rcases k.fr p hp with e | e
    · rw [e]; exact h.fr p hp
    · exact .inr (Nat.le_trans h.ch.size e)
  · refine (k.ch.block i (Nat.lt_of_lt_of_le hi h.ch.size) h1 (fun p hp => ?_)).trans (h.ch.block i hi h1 h2)
    rcases h.fr p hp with e | e
    · rw [e]; exact h2 p hp
    · omega
theorem Nx.of_ch {w w' : World} {g p r : Nat} {rb : Nat → Nat} {Ls : Nat → List Int} (hp : p < 64) (h : LF w' g (upd rb p r) Ls) (hr : r = rb p ∨ w.heap.size ≤ r) (c : Ch g (rb p) w w') : Nx w w' g rb (upd rb p r) Ls :=
  ⟨h, fun q hq => by
    by_cases e : q = p
    · subst e; rw [upd_same]; exact hr
    · rw [upd_other _ _ e]; exact .inl rfl, .of_ch c hp⟩
def putL (Ls : Nat → List Int) (id pr : Int) : Nat → List Int := if rfz Ls id pr = 0 then upd Ls pr.toNat (Ls pr.toNat ++ [id]) else Ls
def frontL (Ls : Nat → List Int) (id pr : Int) : Nat → List Int := if rfz Ls id pr = 0 then upd Ls pr.toNat (id :: Ls pr.toNat) else Ls
theorem rfz_ok {Ls : Nat → List Int} {id pr : Int} (h : rfz Ls id pr = 0) : 0 ≤ id ∧ 0 ≤ pr ∧ pr < 64 ∧ hasL Ls id = false := by
  unfold rfz at h
  split at h
  · omega
  · split at h
    · omega
    · split at h
      · omega
      · rename_i h1 h2 h3
        have h4 : vld pr = true := by simpa using h2
        unfold vld at h4
        have := of_decide_eq_true h4
        exact ⟨by omega, this.1, this.2, by simpa using h3⟩
theorem put_any (g : Nat) (rb : Nat → Nat) (Ls : Nat → List Int) (id pr : Int) (w : World) (h : LF w g rb Ls) (hs : ∀ p, p < 64 → (Ls p).length ≤ 999) :
    Calls Try.prog 15 #[.pointer (some ⟨g, 0, none⟩), .int .i64 id, .int .i64 pr] w fun e w' => ∃ rb', e = .returned (.int .i64 (rfz Ls id pr)) ∧ Nx w w' g rb rb' (putL Ls id pr) := by
  have RF := Lib.hid (refuse_any g rb Ls id pr w h (fun p hp => Nat.le_trans (hs p hp) (by omega)))
  obtain ⟨r, hr⟩ : ∃ r : Int, rfz Ls id pr = r := ⟨_, rfl⟩
  have H := Lib.hid h
  have HS := Lib.hid hs
  have HRF := Lib.hid hr
  rw [hr] at RF ⊢
  clear h hs hr
  by_cases h0 : r = 0
  · subst h0
    obtain ⟨h1, h2, h3, h4⟩ := rfz_ok HRF.out
    obtain ⟨p, rfl⟩ : ∃ p : Nat, pr = (p : Int) := ⟨pr.toNat, by omega⟩
    have hp : p < 64 := by omega
    have HP := Lib.hid hp
    obtain ⟨v, hc, hv, _⟩ := H.out.ln p hp
    obtain ⟨A, c, rfl, _⟩ := hv.slice
    have INS := Lib.hid (ins_any g rb Ls id p (Ls p).length w H.out hp (Nat.le_refl _) (HS.out p hp))
    obtain ⟨n, hn⟩ : ∃ n, (Ls p).length = n := ⟨_, rfl⟩
    rw [hn] at INS hc
    have HNn := Lib.hid hn
    clear h1 h2 h3 h4 hv hp hn
    have hpI : (p : Int) < 64 := by have := HP.out; omega
    go_enter Try.func15, Try.ntmps15
    go_wp2_with fail
    refine RF.out.mono ?_
    rintro e w' ⟨rfl, rfl⟩
    go_wp2_with fail
    refine INS.out.mono ?_
    rintro e w2 ⟨r, rfl, l2, r2, c2⟩
    have NX : Hid (Nx w' w2 g rb (upd rb p r) (putL Ls id (p : Int))) := by
      unfold Hid putL
      rw [if_pos HRF.out, Int.toNat_natCast]
      rw [← HNn.out] at l2
      simp only [List.take_length, List.drop_length] at l2
      exact Nx.of_ch HP.out l2 r2 c2
    clear l2 r2 c2
    go_wp2_with fail
    go_ret
    exact ⟨_, rfl, NX.out⟩
  · have h0B : (r == 0) = false := by rw [beq_eq_false_iff_ne]; exact h0
    have h0B2 : (r != 0) = true := by rw [bne_iff_ne]; exact h0
    have NX : Hid (putL Ls id pr = Ls) := by
      unfold Hid putL
      rw [if_neg (by rw [HRF.out]; exact h0)]
    go_enter Try.func15, Try.ntmps15
    go_wp2_with fail
    refine RF.out.mono ?_
    rintro e w' ⟨rfl, rfl⟩
    go_wp2_with fail
    go_ret
    exact ⟨rb, rfl, by rw [NX.out]; exact Nx.same H.out (Below.refl _ _)⟩
theorem front_any (g : Nat) (rb : Nat → Nat) (Ls : Nat → List Int) (id pr : Int) (w : World) (h : LF w g rb Ls) (hs : ∀ p, p < 64 → (Ls p).length ≤ 999) :
    Calls Try.prog 20 #[.pointer (some ⟨g, 0, none⟩), .int .i64 id, .int .i64 pr] w fun e w' => ∃ rb', e = .returned (.int .i64 (rfz Ls id pr)) ∧ Nx w w' g rb rb' (frontL Ls id pr) := by
  have RF := Lib.hid (refuse_any g rb Ls id pr w h (fun p hp => Nat.le_trans (hs p hp) (by omega)))
  obtain ⟨r, hr⟩ : ∃ r : Int, rfz Ls id pr = r := ⟨_, rfl⟩
  have H := Lib.hid h
  have HS := Lib.hid hs
  have HRF := Lib.hid hr
  rw [hr] at RF ⊢
  clear h hs hr
  by_cases h0 : r = 0
  · subst h0
    obtain ⟨h1, h2, h3, h4⟩ := rfz_ok HRF.out
    obtain ⟨p, rfl⟩ : ∃ p : Nat, pr = (p : Int) := ⟨pr.toNat, by omega⟩
    have hp : p < 64 := by omega
    have HP := Lib.hid hp
    have INS := Lib.hid (ins_any g rb Ls id p 0 w H.out hp (Nat.zero_le _) (HS.out p hp))
    clear h1 h2 h3 h4 hp
    have hpI : (p : Int) < 64 := by have := HP.out; omega
    go_enter Try.func20, Try.ntmps20
    go_wp2_with fail
    refine RF.out.mono ?_
    rintro e w' ⟨rfl, rfl⟩
    go_wp2_with fail
    refine INS.out.mono ?_
    rintro e w2 ⟨r, rfl, l2, r2, c2⟩
    have NX : Hid (Nx w' w2 g rb (upd rb p r) (frontL Ls id (p : Int))) := by
      unfold Hid frontL
      rw [if_pos HRF.out, Int.toNat_natCast]
      simp only [List.take_zero, List.drop_zero, List.nil_append] at l2
      exact Nx.of_ch HP.out l2 r2 c2
    clear l2 r2 c2
    go_wp2_with fail
    go_ret
    exact ⟨_, rfl, NX.out⟩
  · have h0B : (r == 0) = false := by rw [beq_eq_false_iff_ne]; exact h0
    have h0B2 : (r != 0) = true := by rw [bne_iff_ne]; exact h0
    have NX : Hid (frontL Ls id pr = Ls) := by
      unfold Hid frontL
      rw [if_neg (by rw [HRF.out]; exact h0)]
    go_enter Try.func20, Try.ntmps20
    go_wp2_with fail
    refine RF.out.mono ?_
    rintro e w' ⟨rfl, rfl⟩
    go_wp2_with fail
    go_ret
    exact ⟨rb, rfl, by rw [NX.out]; exact Nx.same H.out (Below.refl _ _)⟩
theorem put_nil (id pr : Int) (w : World) : Calls Try.prog 15 #[.pointer none, .int .i64 id, .int .i64 pr] w fun e w' => e = .returned (.int .i64 1) ∧ w' = w := by
  have RF := Lib.hid (refuse_nil id pr w)
  go_enter Try.func15, Try.ntmps15
  go_wp2_with fail
  refine RF.out.mono ?_
  rintro e w' ⟨rfl, rfl⟩
  go_wp2_with fail
  go_ret
  exact ⟨rfl, rfl⟩
theorem front_nil (id pr : Int) (w : World) : Calls Try.prog 20 #[.pointer none, .int .i64 id, .int .i64 pr] w fun e w' => e = .returned (.int .i64 1) ∧ w' = w := by
  have RF := Lib.hid (refuse_nil id pr w)
  go_enter Try.func20, Try.ntmps20
  go_wp2_with fail
  refine RF.out.mono ?_
  rintro e w' ⟨rfl, rfl⟩
  go_wp2_with fail
  go_ret
  exact ⟨rfl, rfl⟩
end Go.Proofs.Ytbkjcjkbicaibaa
