/-
  What BoardPlays keeps: a board, the reference's in a box, an act. Each statement bears its own conditions.
-/
import Derived.Test.YtfmcmhgpgkeplaaBdP
import Derived.Test.YtfmcmhgpgkeplaaBdC
import Derived.Test.YtfmcmhgpgkeplaaBdO
namespace Go.Proofs.Ytfmcmhgpgkeplaa.B
open Go.RowKit Go.Proofs.Ytfmcmhgpgkeplaa.F Go.Proofs.Ytfmcmhgpgkeplaa.I
set_option linter.unusedVariables false
set_option linter.unusedSimpArgs false
theorem ne_ir : (3 : TypeId) ≠ 31 := by decide
/-- A board, and the reference's in the block bw. -/
structure PS (lo bw : Nat) (w : World) (q : Nat → Prop) (g : Nat) (N : Int) (sh : Bool) (M L : List Int) (Am : Option Addr) (cm : Nat) (Al : Option Addr) (cl : Nat) : Prop where
  bv : BV lo w q g N sh M L
  bx : w.heap[bw]? = some (.cells #[.int .i64 N, .slice Am M.length cm, .bool sh, .slice Al L.length cl] 31 (0, 0))
  ms : Sq w (fun b => b < lo) (.slice Am M.length cm) M.length (CU M)
  ls : Ow 3 w (fun b => lo ≤ b ∧ ¬ q b) (.slice Al L.length cl) L.length (C L)
  nq : ¬ q bw ∧ lo ≤ bw
  nu : sh = true → L = []
section
variable {lo bw : Nat} {w w' : World} {q q' : Nat → Prop} {g g' : Nat} {N : Int} {sh : Bool} {M L : List Int} {Am Al : Option Addr} {cm cl : Nat}
theorem PS.blt (h : PS lo bw w q g N sh M L Am cm Al cl) : bw < w.heap.size := (Array.getElem?_eq_some_iff.1 h.bx).1
theorem PS.below (h : PS lo bw w q g N sh M L Am cm Al cl) (hb : Below w.heap.size w w') : PS lo bw w' q g N sh M L Am cm Al cl :=
  ⟨h.bv.below hb, (hb.block bw h.blt).trans h.bx, h.ms.belowP hb, h.ls.below hb, h.nq, h.nu⟩
/-- A clone goes on; what becomes of the first one plays no part. -/
theorem PS.swap (h : PS lo bw w q g N sh M L Am cm Al cl) (c : BV w.heap.size w' q' g' N sh M L) (hb : Below w.heap.size w w') : PS lo bw w' q' g' N sh M L Am cm Al cl := by
  have h1 := h.below hb
  have hlo : lo ≤ w.heap.size := h.bv.nil
  refine ⟨c.less hlo, h1.bx, h1.ms, ?_, ⟨fun hq => ?_, h.nq.2⟩, h.nu⟩
  · refine ⟨h1.ls.own, fun b hb2 => ⟨⟨(h1.ls.at_ b hb2).1.1, fun hq => ?_⟩, (h1.ls.at_ b hb2).2⟩⟩
    have := (c.low b hq).1
    have := (h.ls.at_ b hb2).2
    omega
  · have := (c.low bw hq).1
    have := h.blt
    omega
/-- What is done with another board that lies apart. -/
theorem PS.fo {r : Nat → Prop} (h : PS lo bw w q g N sh M L Am cm Al cl) (f : Fo r w w') (hd : ∀ b, q b → ¬ r b) (hbw : ¬ r bw) (hl : ∀ b, r b → lo ≤ b) (hv : ∀ b, (Value.slice Al L.length cl).ownBlock = some b → ¬ r b) : PS lo bw w' q g N sh M L Am cm Al cl := by
  refine ⟨h.bv.fo f hd, (f.block bw h.blt hbw).trans h.bx, (h.ms.keep f.size fun b hb hp => f.block b hb (fun hr => by have := hl b hr; omega)).imp fun b _ hb => hb.2, ?_, h.nq, h.nu⟩
  have : Ow 3 w (fun b => (lo ≤ b ∧ ¬ q b) ∧ ¬ r b) (.slice Al L.length cl) L.length (C L) := ⟨h.ls.own, fun b hb => ⟨⟨(h.ls.at_ b hb).1, hv b hb⟩, (h.ls.at_ b hb).2⟩⟩
  exact (this.fo f fun b hb => hb.2).imp fun b _ hb => hb.1
end
/-- Behind an act, once the reference's answer is laid into the box. -/
theorem PS.put {lo bw : Nat} {w : World} {q : Nat → Prop} {g : Nat} {N : Int} {sh : Bool} {M L : List Int} {Am Al : Option Addr} {cm cl : Nat} {c0 c1 c2 c3 : Value}
    (h : BV lo w q g N sh M L) (hx : w.heap[bw]? = some (.cells #[c0, c1, c2, c3] 31 (0, 0))) (ms : Sq w (fun b => b < lo) (.slice Am M.length cm) M.length (CU M)) (ls : Ow 3 w (fun b => lo ≤ b ∧ ¬ q b) (.slice Al L.length cl) L.length (C L))
    (nq : ¬ q bw ∧ lo ≤ bw) (nu : sh = true → L = []) :
    PS lo bw ((((w.setCell ⟨bw, 0, none⟩ (.int .i64 N)).setCell ⟨bw, 1, none⟩ (.slice Am M.length cm)).setCell ⟨bw, 2, none⟩ (.bool sh)).setCell ⟨bw, 3, none⟩ (.slice Al L.length cl)) q g N sh M L Am cm Al cl ∧
    Below lo w ((((w.setCell ⟨bw, 0, none⟩ (.int .i64 N)).setCell ⟨bw, 1, none⟩ (.slice Am M.length cm)).setCell ⟨bw, 2, none⟩ (.bool sh)).setCell ⟨bw, 3, none⟩ (.slice Al L.length cl)) := by
  have hf : Fo (fun b => b = bw) w ((((w.setCell ⟨bw, 0, none⟩ (.int .i64 N)).setCell ⟨bw, 1, none⟩ (.slice Am M.length cm)).setCell ⟨bw, 2, none⟩ (.bool sh)).setCell ⟨bw, 3, none⟩ (.slice Al L.length cl)) :=
    ((((Fo.refl (fun b => b = bw) w).setCell (.inl rfl) 0 _).setCell (.inl rfl) 1 _).setCell (.inl rfl) 2 _).setCell (.inl rfl) 3 _
  have hs := set_at (set_at (set_at (set_at hx 0 (.int .i64 N)) 1 (.slice Am M.length cm)) 2 (.bool sh)) 3 (.slice Al L.length cl)
  refine ⟨⟨h.fo hf (fun b hb e => nq.1 (by rw [← e]; exact hb)), hs, ?_, ?_, nq, nu⟩, hf.below (fun b hb => by rw [hb]; exact nq.2) (by have := h.nil; omega)⟩
  · exact (ms.keep hf.size fun b hb hp => hf.block b hb (fun e => by omega)).imp fun b _ hb => hb.2
  · exact ((ls.not hx ne_ir).fo hf (fun b hb => hb.2)).imp fun b _ hb => hb.1
/-- An act in a box of its own. -/
structure AX (lo bw a9 : Nat) (w : World) (q : Nat → Prop) (x : AC) (Ak : Option Addr) (nk ck : Nat) : Prop where
  bx : w.heap[a9]? = some (.cells #[.int .u8 x.d, .int .i64 x.id, .slice Ak nk ck] 33 (0, 0))
  nq : ¬ q a9 ∧ lo ≤ a9 ∧ a9 ≠ bw
  ms : Sq w (fun b => b < lo) (.slice Ak nk ck) nk (CU x.m)
section
variable {lo bw a9 : Nat} {w w' : World} {q q' : Nat → Prop} {x : AC} {Ak : Option Addr} {nk ck : Nat}
theorem AX.lt (h : AX lo bw a9 w q x Ak nk ck) : a9 < w.heap.size := (Array.getElem?_eq_some_iff.1 h.bx).1
theorem AX.below (h : AX lo bw a9 w q x Ak nk ck) (hb : Below w.heap.size w w') : AX lo bw a9 w' q x Ak nk ck := ⟨(hb.block a9 h.lt).trans h.bx, h.nq, h.ms.belowP hb⟩
theorem AX.nx (h : AX lo bw a9 w q x Ak nk ck) (n : Nx q q' w w') (hl : ∀ b, q b → lo ≤ b) : AX lo bw a9 w' q' x Ak nk ck :=
  ⟨(n.fo.block a9 h.lt h.nq.1).trans h.bx, ⟨fun hq => by
    rcases n.sub a9 hq with h1 | h1
    · exact h.nq.1 h1
    · have := h.lt; omega, h.nq.2⟩, (h.ms.keep n.fo.size fun b hb hp => n.fo.block b hb (fun hr => by have := hl b hr; omega)).imp fun b _ hb => hb.2⟩
theorem AX.sub (h : AX lo bw a9 w q x Ak nk ck) (hq : ∀ b, q' b → a9 < b) : AX lo bw a9 w q' x Ak nk ck := ⟨h.bx, ⟨fun hr => by have := hq a9 hr; omega, h.nq.2⟩, h.ms⟩
theorem AX.fo {r : Nat → Prop} (h : AX lo bw a9 w q x Ak nk ck) (f : Fo r w w') (h9 : ¬ r a9) (hl : ∀ b, r b → lo ≤ b) : AX lo bw a9 w' q x Ak nk ck :=
  ⟨(f.block a9 h.lt h9).trans h.bx, h.nq, (h.ms.keep f.size fun b hb hp => f.block b hb (fun hr => by have := hl b hr; omega)).imp fun b _ hb => hb.2⟩
end
end Go.Proofs.Ytfmcmhgpgkeplaa.B
