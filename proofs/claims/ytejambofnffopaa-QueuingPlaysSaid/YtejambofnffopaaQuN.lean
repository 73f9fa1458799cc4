/-
  A queue and the document's in a box, an act in a box. Each statement bears its own conditions.
-/
import Derived.Test.YtejambofnffopaaQuL
namespace Go.Proofs.Ytejambofnffopaa.Q
open Go.RowKit Go.Proofs.Ytejambofnffopaa.F Go.Proofs.Ytejambofnffopaa.U
set_option linter.unusedVariables false
set_option linter.unusedSimpArgs false
structure PQ (lo Rb : Nat) (w0 w : World) (p : Nat → Prop) (g : Nat) (n k : Int) (LL : List (List Int)) (lost : Bool) (LM : List (List Int)) (lm : Bool) (Ar : Option Addr) (nr cr : Nat) (S : List Sl) : Prop where
  qv : QV lo w p (fun _ => True) g n k LL lost
  bx : w.heap[Rb]? = some (.cells #[.int .i64 n, .int .i64 k, .slice Ar nr cr, .bool lm] 29 (0, 0))
  rl : Sq w (fun b => ¬ p b ∧ b ≠ Rb) (.slice Ar nr cr) nr (CS S)
  rm : Ms w (fun _ => True) S LM
  np : ¬ p Rb
  ll : lo ≤ Rb
  cp : nr ≤ cr
  be : Below lo w0 w
structure AX (lo Rb : Nat) (w : World) (p : Nat → Prop) (kd : Int) (Y : Nat) (Am : Option Addr) (jm cm : Nat) (Av : Option Addr) (j cv : Nat) (S2 : List Sl) (K : List Int) (LC : List (List Int)) : Prop where
  ya : w.heap[Y]? = some (.cells #[.int .i64 kd, .slice Am jm cm, .slice Av j cv] 35 (0, 0))
  mq : Sq w (fun b => b < lo) (.slice Am jm cm) jm (CU K)
  lq : Sq w (fun b => ¬ p b ∧ b ≠ Rb) (.slice Av j cv) j (CS S2)
  ml : Mr w (fun b => b < lo) S2 LC
  ny : ¬ p Y ∧ Y ≠ Rb
section
variable {lo Rb : Nat} {w0 w : World} {p : Nat → Prop} {g : Nat} {n k : Int} {LL : List (List Int)} {lost : Bool} {LM : List (List Int)} {lm : Bool} {Ar : Option Addr} {nr cr : Nat} {S : List Sl} {w' : World} {q : Nat → Prop} {LL' : List (List Int)} {lost' : Bool}
theorem PQ.blt (h : PQ lo Rb w0 w p g n k LL lost LM lm Ar nr cr S) : Rb < w.heap.size := (Array.getElem?_eq_some_iff.1 h.bx).1
theorem PQ.len (h : PQ lo Rb w0 w p g n k LL lost LM lm Ar nr cr S) : nr = LM.length := by have := h.rl.len; rw [h.rm.mr.len2] at this; exact this.symm
theorem PQ.below (h : PQ lo Rb w0 w p g n k LL lost LM lm Ar nr cr S) (hb : Below w.heap.size w w') : PQ lo Rb w0 w' p g n k LL lost LM lm Ar nr cr S :=
  ⟨h.qv.below hb, (hb.block _ h.blt).trans h.bx, h.rl.belowP hb, h.rm.below hb, h.np, h.ll, h.cp, h.be.trans (hb.mono h.qv.nil)⟩
theorem PQ.op (h : PQ lo Rb w0 w p g n k LL lost LM lm Ar nr cr S) (hq : QV lo w' q (fun _ => True) g n k LL' lost') (hn : Nx p q w w') : PQ lo Rb w0 w' q g n k LL' lost' LM lm Ar nr cr S :=
  ⟨hq, (hn.fo.block _ h.blt h.np).trans h.bx, (h.rl.fo hn.fo fun b hb => hb.1).imp fun b _ hb => ⟨fun hx => by rcases hn.sub b hx with h1 | h1; exact hb.2.1 h1; omega, hb.2.2⟩, h.rm.keepq h.qv hn, fun hx => by rcases hn.sub _ hx with h1 | h1; exact h.np h1; have := h.blt; omega, h.ll, h.cp, h.be.trans (h.qv.nx hn)⟩
theorem PQ.box (h : PQ lo Rb w0 w p g n k LL lost LM lm Ar nr cr S) {LM' : List (List Int)} {lm' : Bool} {A' : Option Addr} {n' c' : Nat} {S' : List Sl} (hf : Fo (fun b => b = Rb) w w') (hx : w'.heap[Rb]? = some (.cells #[.int .i64 n, .int .i64 k, .slice A' n' c', .bool lm'] 29 (0, 0)))
    (hl : Sq w (fun b => ¬ p b ∧ b ≠ Rb) (.slice A' n' c') n' (CS S')) (hm : Ms w (fun _ => True) S' LM') (hc : n' ≤ c') : PQ lo Rb w0 w' p g n k LL lost LM' lm' A' n' c' S' := by
  have hty : Ty w (fun b => b = Rb) := fun b hb _ => by subst hb; exact ⟨_, _, _, h.bx, by decide⟩
  exact ⟨h.qv.fot hf (fun b hb e => h.np (by rw [← e]; exact hb)) hty, hx, (hl.fo hf fun b hb => hb.2).imp fun b _ hb => hb.2, hm.fot hf hty, h.np, h.ll, hc, h.be.trans (hf.below (fun b hb => by rw [hb]; exact h.ll) h.qv.nil)⟩
variable {kd : Int} {Y : Nat} {Am : Option Addr} {jm cm : Nat} {Av : Option Addr} {j cv : Nat} {S2 : List Sl} {K : List Int} {LC : List (List Int)}
theorem AX.blt (h : AX lo Rb w p kd Y Am jm cm Av j cv S2 K LC) : Y < w.heap.size := (Array.getElem?_eq_some_iff.1 h.ya).1
theorem AX.below (h : AX lo Rb w p kd Y Am jm cm Av j cv S2 K LC) (hl : lo ≤ w.heap.size) (hb : Below w.heap.size w w') : AX lo Rb w' p kd Y Am jm cm Av j cv S2 K LC :=
  ⟨(hb.block _ h.blt).trans h.ya, sq_low h.mq (hb.mono hl), h.lq.belowP hb, h.ml.low (hb.mono hl), h.ny⟩
theorem AX.op (h : AX lo Rb w p kd Y Am jm cm Av j cv S2 K LC) (hv : QV lo w p (fun _ => True) g n k LL lost) (hn : Nx p q w w') : AX lo Rb w' q kd Y Am jm cm Av j cv S2 K LC :=
  ⟨(hn.fo.block _ h.blt h.ny.1).trans h.ya, sq_low h.mq (hv.nx hn), (h.lq.fo hn.fo fun b hb => hb.1).imp fun b _ hb => ⟨fun hx => by rcases hn.sub b hx with h1 | h1; exact hb.2.1 h1; omega, hb.2.2⟩, h.ml.low (hv.nx hn), fun hx => by rcases hn.sub _ hx with h1 | h1; exact h.ny.1 h1; have := h.blt; omega, h.ny.2⟩
theorem AX.box (h : AX lo Rb w p kd Y Am jm cm Av j cv S2 K LC) (hlo : lo ≤ Rb) (hf : Fo (fun b => b = Rb) w w') (hl : lo ≤ w.heap.size) : AX lo Rb w' p kd Y Am jm cm Av j cv S2 K LC :=
  have hb : Below lo w w' := hf.below (fun b hb => by rw [hb]; exact hlo) hl
  ⟨(hf.block _ h.blt h.ny.2).trans h.ya, sq_low h.mq hb, (h.lq.fo hf fun b hb => hb.2).imp fun b _ hb => hb.2, h.ml.low hb, h.ny⟩
end
theorem pL_s (n fr : Int) (LL : List (List Int)) (K : List Int) : pL n fr LL K = sL n fr 17 LL K := rfl
theorem pF_s (n fr : Int) (l : Bool) (K : List Int) : pF n fr l K = sF n fr 17 l K := rfl
theorem cutL_len (LL : List (List Int)) : (cutL LL).length ≤ 40 ∧ ∀ L ∈ cutL LL, L.length ≤ 40 := by
  refine ⟨by unfold cutL; rw [List.length_take]; omega, fun L hL => ?_⟩
  unfold cutL at hL
  obtain ⟨L', _, rfl⟩ := List.mem_map.1 (List.mem_of_mem_take hL)
  rw [List.length_take]; omega
structure PlR (lo Rb len : Nat) (w0 : World) (n k : Int) (gv iv : Value) (wr : World) : Prop where
  ex : ∃ (i : Nat) (p : Nat → Prop) (g : Nat) (LL : List (List Int)) (lost : Bool) (Ar : Option Addr) (nr cr : Nat) (S : List Sl), i ≤ len ∧ i ≤ 50 ∧ iv = .int .i64 (i : Int) ∧ gv = .pointer (some ⟨g, 0, none⟩) ∧ PQ lo Rb w0 wr p g n k LL lost LL lost Ar nr cr S
structure PlC (lo Rb : Nat) (w0 : World) (n k : Int) (gv : Value) (wr : World) : Prop where
  ex : ∃ (p : Nat → Prop) (g : Nat) (LL : List (List Int)) (lost : Bool) (Ar : Option Addr) (nr cr : Nat) (S : List Sl), gv = .pointer (some ⟨g, 0, none⟩) ∧ PQ lo Rb w0 wr p g n k LL lost LL lost Ar nr cr S
end Go.Proofs.Ytejambofnffopaa.Q
