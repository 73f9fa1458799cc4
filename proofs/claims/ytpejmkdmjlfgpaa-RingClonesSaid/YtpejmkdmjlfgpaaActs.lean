/-
  The contracts of the model's Put and Take of the ring, of few, Copy, Room, Words. Each statement bears its own conditions.
-/
import Derived.Test.YtpejmkdmjlfgpaaOrder
namespace Go.Proofs.Ytpejmkdmjlfgpaa
open Go.RowKit
set_option linter.unusedSimpArgs false
set_option linter.unusedVariables false
theorem room_any (w : World) (Q : Nat → Prop) (g n m f : Nat) (L : List (List Int)) (h : RingF w Q g n m f L) :
    Calls Try.prog 15 #[.pointer (some ⟨g, 0, none⟩)] w fun e w' => e = .returned (.int .i64 (n : Int)) ∧ Below w.heap.size w w' := by
  have c := h.cell0
  clear h
  go_enter Try.func15, Try.ntmps15
  go_wp2_with fail
  go_ret
  exact ⟨rfl, Below.refl _ _⟩
theorem words_any (w : World) (Q : Nat → Prop) (g n m f : Nat) (L : List (List Int)) (h : RingF w Q g n m f L) :
    Calls Try.prog 16 #[.pointer (some ⟨g, 0, none⟩)] w fun e w' => e = .returned (.int .i64 (m : Int)) ∧ Below w.heap.size w w' := by
  have c := h.cell1
  clear h
  go_enter Try.func16, Try.ntmps16
  go_wp2_with fail
  go_ret
  exact ⟨rfl, Below.refl _ _⟩
theorem few_any (A : Option Addr) (n c m : Nat) (w : World) (hm : min n 40 = m) (hc : n ≤ c) (hn : c ≤ maxLen) :
    Calls Try.prog 26 #[.slice A n c] w fun e w' => e = .returned (.slice A m c) ∧ Below w.heap.size w w' := by
  have hk : min (n : Int) 40 = (m : Int) := by omega
  have hk' : (if (40 : Int) < (n : Int) then (40 : Int) else (n : Int)) = (m : Int) := by rw [← hk]; split <;> omega
  have mc : (m : Int) ≤ (c : Int) := by omega
  have m0 : (0 : Int) ≤ (m : Int) := by omega
  clear hm hc hn
  go_enter Try.func26, Try.ntmps26
  go_wp2_with fail
  go_ret
  exact ⟨rfl, Below.refl _ _⟩
theorem copy_any (A : Option Addr) (n c : Nat) (l : List Int) (w : World) (h : Reads w w.heap.size 1 A n (U l)) (hn : n ≤ 1048576) :
    Calls Try.prog 31 #[.slice A n c] w (Own w.heap.size w n l) := by
  obtain ⟨i0, hi, hz0, hz1, hz2⟩ := info_parts word_info
  have HR := Lib.hid h
  clear h
  go_enter Try.func31, Try.ntmps31
  go_wp2_with (at_builtin; refine wpList_append_any _ rfl (.tmp 3) (.tmp 4) _ rfl w.heap.size 52 i0 _ 1 4 Try.underlying32 hi hz0 hz1 hz2 rfl (by omega) (.slice (some ⟨w.heap.size, 0, none⟩) 0 0) 0 (U []) rfl (own_new0 w.heap.size w (Nat.le_refl _)) w.heap.size A n c (U l) rfl (HR.out.alloc (Nat.le_refl _) _) (U_one _) ?c2 ?c3 ?c4 ?_)
  case c2 => unfold maxLen; omega
  case c3 => omega
  case c4 => first | (simp; done) | (simp; omega) | omega
  intro v3 w3 hown3 hg3 _
  have hown3' : w3.ownsRow w.heap.size 52 1 v3 n (U l) := by simpa using hown3
  obtain ⟨A3, c3, hv, ho3, hb3⟩ := own_of (own_new0 w.heap.size w (Nat.le_refl _)) ((Below.refl _ _).alloc (Nat.le_refl _) _) (by first | (simp; done) | (simp; omega) | omega) hown3' hg3
  rw [hv]
  clear hv hown3 hown3' hg3
  go_wp2_with fail
  go_ret
  exact ⟨A3, c3, rfl, ho3, hb3⟩
/-- A list of messages in memory, read only. -/
structure RefR (w : World) (Q : Nat → Prop) (A : Option Addr) (c : Nat) (L : List (List Int)) : Prop where
  ex : ∃ vs : List Value, vs.length = L.length ∧ Reads w w.heap.size 1 A L.length vs ∧ (A = none → c = 0) ∧ L.length ≤ c ∧ (∀ u ∈ vs, u.oneCell' = true) ∧ (∀ ad, A = some ad → 0 < L.length → Q ad.block) ∧
    ∀ i, i < L.length → Slot w Q (vs.getD i undef) (L.getD i [])
theorem RefR.keep {w w' : World} {Q : Nat → Prop} {A : Option Addr} {c : Nat} {L : List (List Int)} (h : RefR w Q A c L) (hs : w.heap.size ≤ w'.heap.size) (hb : ∀ k, k < w.heap.size → Q k → w'.heap[k]? = w.heap[k]?) : RefR w' Q A c L := by
  obtain ⟨vs, h1, hr, h3, h4, h5, h6, h7⟩ := h.ex
  refine ⟨vs, h1, ⟨hr.1, fun hn => ?_⟩, h3, h4, h5, h6, fun i hi => (h7 i hi).keep hs hb⟩
  obtain ⟨ad, e, hlt, hc⟩ := hr.2 hn
  exact ⟨ad, e, by omega, fun j u hu => (World.cell?_of_block (hb _ (by rw [block_of_add]; exact hlt) (by rw [block_of_add]; exact h6 ad e hn))).trans (hc j u hu)⟩
theorem RefR.below {w w' : World} {Q : Nat → Prop} {A : Option Addr} {c : Nat} {L : List (List Int)} (h : RefR w Q A c L) (hb : Below w.heap.size w w') : RefR w' Q A c L := h.keep hb.size fun k hk _ => hb.block k hk
theorem RefR.past {w w' : World} {Q : Nat → Prop} {A : Option Addr} {c x : Nat} {L : List (List Int)} (h : RefR w Q A c L) (p : Past x w w') (hx : ¬ Q x) : RefR w' Q A c L := h.keep p.size fun k hk hq => p.block k hk fun e => hx (e ▸ hq)
theorem RefR.more {w : World} {Q Q' : Nat → Prop} {A : Option Addr} {c : Nat} {L : List (List Int)} (h : RefR w Q A c L) (hq : ∀ b, b < w.heap.size → Q b → Q' b) : RefR w Q' A c L := by
  obtain ⟨vs, h1, hr, h3, h4, h5, h6, h7⟩ := h.ex
  refine ⟨vs, h1, hr, h3, h4, h5, fun ad e hn => ?_, fun i hi => ?_⟩
  · obtain ⟨ad', e', hlt, _⟩ := hr.2 hn
    rw [e] at e'; injection e' with e'; subst e'
    exact hq _ hlt (h6 ad e hn)
  · obtain ⟨A1, c1, hv, hA1, hr1, hq1⟩ := (h7 i hi).ex
    exact ⟨A1, c1, hv, hA1, hr1, fun ad e hn => by
      obtain ⟨ad', e', hlt, _⟩ := hr1.2 hn
      rw [e] at e'; injection e' with e'; subst e'
      exact ⟨hq _ hlt (hq1 ad e hn).1, (hq1 ad e hn).2⟩⟩
theorem RefR.set {w : World} {Q : Nat → Prop} {A : Option Addr} {c : Nat} {L : List (List Int)} (h : RefR w Q A c L) {p : Addr} (hp : ¬ Q p.block) (u : Value) : RefR (w.setCell p u) Q A c L :=
  h.keep (by simp [World.setCell]) fun k hk hq => Below.heap_setCell _ _ _ _ (fun e => hp (e ▸ hq))
theorem refR_nil (w : World) (Q : Nat → Prop) : RefR w Q none 0 [] := ⟨[], rfl, Reads.none_, fun _ => rfl, Nat.le_refl _, fun u hu => by simp at hu, fun ad e => (by cases e), fun i hi => by simp at hi⟩
/-- A row of the call's own, with its elements, read. -/
theorem refR_own {w : World} {B c : Nat} {A : Option Addr} {L : List (List Int)} {vs : List Value} {Q : Nat → Prop} (h : w.ownsRow B 32 1 (.slice A L.length c) L.length vs) (hs : ∀ j, j < L.length → Slot w Q (vs.getD j undef) (L.getD j [])) (hQ : ∀ ad, A = some ad → Q ad.block) : RefR w Q A c L := by
  have hl : vs.length = L.length := by have := h.1; simpa using this
  refine ⟨vs, hl, Reads.of_own h, ?_, ?_, ?_, fun ad e _ => hQ ad e, hs⟩
  · rcases h.2 with ⟨h1, _⟩ | ⟨g, cap, cur, h1, _⟩
    · injection h1 with _ _ h3; exact fun _ => h3
    · injection h1 with h2; intro e; rw [e] at h2; cases h2
  · rcases h.2 with ⟨h1, h2⟩ | ⟨g, cap, cur, h1, _, _, h3, _⟩
    · omega
    · injection h1 with _ _ h4; omega
  · intro u hu
    obtain ⟨i, hi, rfl⟩ := List.getElem_of_mem hu
    obtain ⟨A1, c1, hv, _⟩ := (hs i (by omega)).ex
    rw [List.getD_eq_getElem?_getD, List.getElem?_eq_getElem hi] at hv
    have hv' : vs[i] = _ := hv
    rw [hv']; rfl
theorem place_row {w : World} {Q : Nat → Prop} {A : Option Addr} {c : Nat} {L : List (List Int)} (h : RefR w Q A c L) (hn : 0 < L.length) : ∃ b off, A = some ⟨b, off, none⟩ ∧ ∀ i, i < L.length → ∃ v, w.cell? ⟨b, off + i, none⟩ = some v ∧ Slot w Q v (L.getD i []) := by
  obtain ⟨vs, h1, hr, h3, h4, h5, h6, h7⟩ := h.ex
  obtain ⟨⟨b, off, spot⟩, hA, hb, hc⟩ := hr.2 hn
  have e0 := hc 0 (vs[0]'(by omega)) (List.getElem?_eq_getElem (by omega))
  have hs : spot = none := by simpa [Addr.add] using World.cell?_spot e0
  subst hs
  refine ⟨b, off, hA, fun i hi => ⟨vs[i]'(by omega), ?_, ?_⟩⟩
  · have := hc i (vs[i]'(by omega)) (List.getElem?_eq_getElem (by omega))
    rwa [Addr.add_lit] at this
  · have := h7 i hi
    rwa [List.getD_eq_getElem?_getD, List.getElem?_eq_getElem (show i < vs.length by omega)] at this

/-- The elements of a list with one message more. -/
theorem rput_slots {w w3 w4 w5 : World} {Q : Nat → Prop} {N k : Nat} {L : List (List Int)} {l : List Int} {vs : List Value} {A3 A4 A5 : Option Addr} {c3 c4 c5 : Nat} (hN : L.length = N) (hl : l.length = k) (hvl : vs.length = N)
    (hs : ∀ i, i < L.length → Slot w Q (vs.getD i undef) (L.getD i [])) (B3 : Below w.heap.size w w3) (S3 : w.heap.size + 2 ≤ w3.heap.size) (B4 : Below w3.heap.size w3 w4)
    (O4 : w4.ownsRow w3.heap.size 52 1 (.slice A4 k c4) k (U l)) (O3 : w3.ownsRow (w.heap.size + 2) 32 1 (.slice A3 N c3) N vs) (hg : (w4.alloc (.cells #[.slice A4 k c4] 32)).grownBy w5 (Value.slice A3 N c3).ownBlock)
    (O5 : w5.ownsRow (w.heap.size + 2) 32 1 (.slice A5 (N + 1) c5) (N + 1) (vs ++ [.slice A4 k c4]))
    (hr : (Value.slice A5 (N + 1) c5).ownBlock = (Value.slice A3 N c3).ownBlock ∨ (Value.slice A5 (N + 1) c5).ownBlock = some (w4.alloc (.cells #[.slice A4 k c4] 32)).heap.size) :
    ∀ j, j < (L ++ [l]).length → Slot w5 (fun b => (Q b ∧ b < w.heap.size) ∨ (w3.heap.size ≤ b ∧ b < w4.heap.size)) ((vs ++ [Value.slice A4 k c4]).getD j undef) ((L ++ [l]).getD j []) := by
  subst hl
  have s3 := B3.size
  have s4 := B4.size
  have s5 := hg.size
  have e5 : (w4.alloc (.cells #[.slice A4 l.length c4] 32)).heap.size = w4.heap.size + 1 := by simp
  have ha : ∀ ad, A3 = some ad → w.heap.size + 2 ≤ ad.block ∧ ad.block < w3.heap.size := fun ad e => by
    subst e
    exact O3.lt ad.block rfl
  have keep : ∀ (b : Nat), b < w4.heap.size → (∀ ad, A3 = some ad → b ≠ ad.block) → w5.heap[b]? = w4.heap[b]? := fun b hb hne => by
    rw [hg.block b (by omega) (fun e => by
      cases A3 with
      | none => cases e
      | some a0 =>
        have h' : some b = some a0.block := e
        injection h' with h'
        exact hne a0 rfl h')]
    exact Below.heap_alloc _ _ _ hb
  intro j hj
  by_cases e : j < L.length
  · have h0 := hs j e
    obtain ⟨A1, c1, hv, hA1, hr1, hq1⟩ := h0.ex
    have h0' : Slot w (fun b => Q b ∧ b < w.heap.size) (vs.getD j undef) (L.getD j []) := ⟨A1, c1, hv, hA1, hr1, fun ad e hn => by
      obtain ⟨ad', e', hlt, _⟩ := hr1.2 hn
      rw [e] at e'; injection e' with e'; subst e'
      exact ⟨⟨(hq1 ad e hn).1, hlt⟩, (hq1 ad e hn).2⟩⟩
    have h1 := (h0'.keep s3 fun b hb _ => B3.block b hb).keep s4 fun b hb hq => B4.block b (by omega)
    have h4 := h1.keep (w' := w5) (by omega) fun b hb hq => keep b hb (fun ad ea => by have := ha ad ea; have := hq.2; omega)
    have h5 := h4.more (Q' := fun b => (Q b ∧ b < w.heap.size) ∨ (w3.heap.size ≤ b ∧ b < w4.heap.size)) fun b hq => .inl hq
    simpa [List.getD_eq_getElem?_getD, List.getElem?_append_left (show j < vs.length by omega), List.getElem?_append_left e] using h5
  · obtain rfl : j = L.length := by simp at hj; omega
    have h4 := (slot_own O4).keep (w' := w5) (by omega) fun b hb hq => keep b hb (fun ad ea => by have := ha ad ea; have := hq.1; omega)
    have h5 := h4.more (Q' := fun b => (Q b ∧ b < w.heap.size) ∨ (w3.heap.size ≤ b ∧ b < w4.heap.size)) fun b hq => .inr hq
    have e2 : (vs ++ [Value.slice A4 l.length c4]).getD L.length undef = .slice A4 l.length c4 := by
      rw [List.getD_eq_getElem?_getD, hN, ← hvl]; simp
    have e3 : (L ++ [l]).getD L.length [] = l := by simp [List.getD_eq_getElem?_getD]
    rw [e2, e3]; exact h5

theorem rput_range (n m : Int) (k : Nat) (A A1 : Option Addr) (c c1 : Nat) (kk : Nat) (w : World) (hk : m < (k : Int)) :
    Calls Try.prog 25 #[.agg #[.int .i64 n, .int .i64 m, .slice A kk c], .slice A1 k c1] w fun e w' => e = .returned (.tuple #[.agg #[.int .i64 n, .int .i64 m, .slice A kk c], .int .i64 2]) ∧ Below w.heap.size w w' := by
  go_enter Try.func25, Try.ntmps25
  go_wp2_with fail
  exact bodyPost_ret (v := .tuple #[.agg #[.int .i64 n, .int .i64 m, .slice A kk c], .int .i64 2]) (by simp [results, Try.results25, go_sem]) rfl ⟨rfl, ((Below.refl _ _).alloc (Nat.le_refl _) _).alloc (by simp) _⟩
theorem rput_full (n m : Int) (k : Nat) (A A1 : Option Addr) (c c1 : Nat) (kk : Nat) (w : World) (hk : (k : Int) ≤ m) (hf : n ≤ (kk : Int)) :
    Calls Try.prog 25 #[.agg #[.int .i64 n, .int .i64 m, .slice A kk c], .slice A1 k c1] w fun e w' => e = .returned (.tuple #[.agg #[.int .i64 n, .int .i64 m, .slice A kk c], .int .i64 8]) ∧ Below w.heap.size w w' := by
  go_enter Try.func25, Try.ntmps25
  go_wp2_with fail
  exact bodyPost_ret (v := .tuple #[.agg #[.int .i64 n, .int .i64 m, .slice A kk c], .int .i64 8]) (by simp [results, Try.results25, go_sem]) rfl ⟨rfl, ((Below.refl _ _).alloc (Nat.le_refl _) _).alloc (by simp) _⟩
theorem own_rows0 (B : Nat) (w : World) (hB : B ≤ w.heap.size) : (w.alloc (.cells #[] 32)).ownsRow B 32 1 (.slice (some ⟨w.heap.size, 0, none⟩) 0 0) 0 [] :=
  ⟨by simp, .inr ⟨w.heap.size, 0, #[], rfl, hB, heap_alloc_new w _, Nat.le_refl _, by unfold maxLen; omega, by simp, by simp⟩⟩
/-- A box of three cells. -/
structure Box (w : World) (p : Nat) (v0 v1 v2 : Value) : Prop where
  lt : p < w.heap.size
  c0 : w.cell? ⟨p, 0, none⟩ = some v0
  c1 : w.cell? ⟨p, 1, none⟩ = some v1
  c2 : w.cell? ⟨p, 2, none⟩ = some v2
  fz : ∀ o, w.frozen? ⟨p, o, none⟩ = false
theorem Box.keep {w w' : World} {p : Nat} {v0 v1 v2 : Value} (h : Box w p v0 v1 v2) (hs : w.heap.size ≤ w'.heap.size) (hb : w'.heap[p]? = w.heap[p]?) : Box w' p v0 v1 v2 :=
  ⟨by have := h.lt; omega, (World.cell?_of_block (a := ⟨p, 0, none⟩) hb).trans h.c0, (World.cell?_of_block (a := ⟨p, 1, none⟩) hb).trans h.c1, (World.cell?_of_block (a := ⟨p, 2, none⟩) hb).trans h.c2, fun o => (World.frozen?_of_block (a := ⟨p, o, none⟩) hb).trans (h.fz o)⟩
theorem Box.below {w w' : World} {p : Nat} {v0 v1 v2 : Value} (h : Box w p v0 v1 v2) (hb : Below w.heap.size w w') : Box w' p v0 v1 v2 := h.keep hb.size (hb.block p h.lt)
theorem Box.past {w w' : World} {p x : Nat} {v0 v1 v2 : Value} (h : Box w p v0 v1 v2) (hb : Past x w w') (hx : p ≠ x) : Box w' p v0 v1 v2 := h.keep hb.size (hb.block p h.lt hx)
theorem box_new (w : World) (v0 v1 v2 : Value) (t : TypeId) : Box (w.alloc (.cells #[v0, v1, v2] t)) w.heap.size v0 v1 v2 :=
  ⟨by simp, by rw [World.cell?_alloc_new]; rfl, by rw [World.cell?_alloc_new]; rfl, by rw [World.cell?_alloc_new]; rfl, fun o => by simp⟩
theorem own_rows0' (w : World) (o1 o2 : Obj) : (((w.alloc o1).alloc o2).alloc (.cells #[] 32)).ownsRow (w.heap.size + 2) 32 1 (.slice (some ⟨w.heap.size + 2, 0, none⟩) 0 0) 0 [] := by
  have e : ((w.alloc o1).alloc o2).heap.size = w.heap.size + 2 := by simp
  have := own_rows0 (w.heap.size + 2) ((w.alloc o1).alloc o2) (by omega)
  rwa [e] at this
set_option maxHeartbeats 1000000 in
theorem rput_ok (n m : Nat) (w : World) (Q : Nat → Prop) (A : Option Addr) (c : Nat) (L : List (List Int)) (h : RefR w Q A c L) (A1 : Option Addr) (k c1 : Nat) (l : List Int) (hr : Reads w w.heap.size 1 A1 k (U l)) (hk : k ≤ m) (hm : m ≤ 32) (hn : n ≤ 32) (hfull : L.length < n) :
    Calls Try.prog 25 #[.agg #[.int .i64 (n : Int), .int .i64 (m : Int), .slice A L.length c], .slice A1 k c1] w fun e w' => ∃ A' c', e = .returned (.tuple #[.agg #[.int .i64 (n : Int), .int .i64 (m : Int), .slice A' (L ++ [l]).length c'], .int .i64 0]) ∧
      RefR w' (fun b => Q b ∨ (w.heap.size ≤ b ∧ b < w'.heap.size)) A' c' (L ++ [l]) ∧ Below w.heap.size w w' := by
  obtain ⟨i0, hi, hz0, hz1, hz2⟩ := info_parts row_info
  have hk' : (k : Int) ≤ (m : Int) := by omega
  have hf' : ¬ (n : Int) ≤ (L.length : Int) := by omega
  have ll : l.length = k := by have := hr.1; simpa using this
  obtain ⟨vs, v1, v2, v3, v4, v5, v6, v7⟩ := h.ex
  obtain ⟨N, hN⟩ : ∃ N, L.length = N := ⟨_, rfl⟩
  rw [hN] at v2 hf' hfull v1
  simp only [List.length_append, List.length_singleton, hN]
  have N32 : N ≤ 32 := by omega
  have HV2 := Lib.hid v2
  have HR := Lib.hid hr
  have K32 : Hid (k ≤ 32) := by unfold Hid; omega
  have HLL := Lib.hid ll
  have HNN := Lib.hid hN
  have HV1 := Lib.hid v1
  have HV5 := Lib.hid v5
  have HV7 := Lib.hid v7
  clear h hr ll hk hm hn hfull v1 v2 v3 v4 v5 v6 v7 hN
  go_enter Try.func25, Try.ntmps25
  have W2 : ∀ (u0 u1 u2 : Value), Below w.heap.size w ((w.alloc (.cells #[.int .i64 (n : Int), .int .i64 (m : Int), .slice A N c] 26)).alloc (.cells #[u0, u1, u2] 26)) := fun u0 u1 u2 => ((Below.refl _ _).alloc (Nat.le_refl _) _).alloc (by simp) _
  have HW2 := Lib.hid W2
  clear W2
  go_wp2_with (at_builtin; refine wpList_append_any _ rfl (.tmp 19) (.tmp 21) _ rfl (w.heap.size + 2) 32 i0 _ 1 24 Try.underlying24 hi hz0 hz1 hz2 rfl (by omega) (.slice (some ⟨w.heap.size + 2, 0, none⟩) 0 0) 0 [] rfl (own_rows0' w _ _) w.heap.size A N c vs rfl (HV2.out.below (((HW2.out _ _ _).alloc (by simp; omega) _))) HV5.out ?c2 ?c3 ?c4 ?_)
  case c2 => unfold maxLen; omega
  case c3 => omega
  intro v3 w3 hown3 hg3 _
  obtain ⟨A3, c3, hv⟩ := slice_form hown3
  subst hv
  have W3 : ∀ (u0 u1 u2 : Value), Below (w.heap.size + 2) ((w.alloc (.cells #[.int .i64 (n : Int), .int .i64 (m : Int), .slice A N c] 26)).alloc (.cells #[u0, u1, u2] 26)) w3 → True := fun _ _ _ _ => trivial
  have b3 := ((Below.refl (w.heap.size + 2) ((w.alloc (.cells #[.int .i64 (n : Int), .int .i64 (m : Int), .slice A N c] 26)).alloc (.cells #[.int .i64 0, .int .i64 0, .slice none 0 0] 26))).alloc (by simp) (.cells #[] 32)).grown hg3 (by simp) (fun q hq => by have h' : some (w.heap.size + 2) = some q := hq; injection h' with h'; omega)
  have X1 : Box w3 w.heap.size (.int .i64 (n : Int)) (.int .i64 (m : Int)) (.slice A N c) := ((box_new w _ _ _ 26).below ((Below.refl _ _).alloc (Nat.le_refl _) _)).keep b3.size (b3.block _ (by omega))
  have X2 : Box w3 (w.heap.size + 1) (.int .i64 0) (.int .i64 0) (.slice none 0 0) := by
    have := box_new (w.alloc (.cells #[.int .i64 (n : Int), .int .i64 (m : Int), .slice A N c] 26)) (.int .i64 0) (.int .i64 0) (.slice none 0 0) 26
    rw [show (w.alloc (.cells #[.int .i64 (n : Int), .int .i64 (m : Int), .slice A N c] 26)).heap.size = w.heap.size + 1 by simp] at this
    exact this.keep b3.size (b3.block _ (by omega))
  have B3 : Below w.heap.size w w3 := (HW2.out _ _ _).trans (b3.mono (by omega))
  have S3 : w.heap.size + 2 ≤ w3.heap.size := by have := b3.size; simp at this; omega
  have O3 : w3.ownsRow (w.heap.size + 2) 32 1 (.slice A3 N c3) N vs := hown3
  have CP := Lib.hid (copy_any A1 k c1 l w3 ((HR.out.below B3).more B3.size) (by have := K32.out; omega))
  have HX1 := Lib.hid X1
  have HX2 := Lib.hid X2
  have HO3 := Lib.hid O3
  have HB3 := Lib.hid B3
  have HS3 := Lib.hid S3
  clear X1 X2 O3 B3 S3 b3 hown3 hg3 W3 HW2
  have x12 := HX1.out.c2
  have x1f := HX1.out.fz 2
  go_wp2_with fail
  refine CP.out.mono ?_
  rintro e w4 ⟨A4, c4, rfl, ho4, b4⟩
  have O4 := own_below HO3.out b4
  have HB4 := Lib.hid b4
  have B4 : Below w.heap.size w w4 := HB3.out.trans (b4.mono HB3.out.size)
  have S4 := Nat.le_trans HS3.out b4.size
  have HO4 := Lib.hid ho4
  clear b4 CP ho4 x12 x1f
  go_wp2_with (at_builtin; refine wpList_append_any _ rfl (.tmp 22) (.tmp 25) _ rfl (w.heap.size + 2) 32 i0 _ 1 24 Try.underlying24 hi hz0 hz1 hz2 rfl (by omega) (.slice A3 N c3) N vs rfl (own_below O4 ((Below.refl _ _).alloc (Nat.le_refl _) _)) _ (some ⟨w4.heap.size, 0, none⟩) 1 1 [.slice A4 k c4] rfl (reads_new w4 [.slice A4 k c4] 32) (by intro u hu; simp at hu; subst hu; rfl) ?e2 ?e3 ?e4 ?_)
  case e2 => unfold maxLen; omega
  case e3 => omega
  case e4 => simp; omega
  intro v5 w5 hown5 hg5 hr5
  obtain ⟨A5, c5, hv⟩ := slice_form hown5
  subst hv
  have b5 := ((Below.refl (w.heap.size + 2) w4).alloc (by omega) (.cells #[.slice A4 k c4] 32)).grown hg5 (by simp; omega) (fun q hq => (O4.lt q hq).1)
  have Y1 := (HX1.out.below HB4.out).keep b5.size (b5.block _ (by omega))
  have Y2 := (HX2.out.below HB4.out).keep b5.size (b5.block _ (by omega))
  have B5 : Below w.heap.size w w5 := B4.trans (b5.mono (by omega))
  have FIN := rput_slots (Q := Q) HNN.out HLL.out HV1.out HV7.out HB3.out HS3.out HB4.out HO4.out HO3.out hg5 hown5 (by rw [show (w4.alloc (Obj.cells #[Value.slice A4 k c4] 32)).heap.size = w4.heap.size + 1 by simp]; exact hr5)
  have HFIN := Lib.hid FIN
  have HS45 : Hid (w4.heap.size ≤ w5.heap.size) := by have := hg5.size; simp at this; unfold Hid; omega
  have HB5 := Lib.hid B5
  have HO5 := Lib.hid hown5
  have y10 := Y1.c0
  have y11 := Y1.c1
  have y12 := Y1.c2
  have y1f := Y1.fz
  have y20 := Y2.c0
  have y21 := Y2.c1
  have y22 := Y2.c2
  have y2f := Y2.fz
  clear FIN B5 hown5 Y1 Y2 b5 O4 B4 hg5 hr5 S4 HX1 HX2
  go_wp2_with fail
  have lenN : (L ++ [l]).length = N + 1 := by simp [HNN.out]
  have R5 : RefR w5 (fun b => (Q b ∧ b < w.heap.size) ∨ (w.heap.size + 2 ≤ b ∧ b < w5.heap.size)) A5 c5 (L ++ [l]) := by
    have h5 := HO5.out
    rw [← lenN] at h5
    refine refR_own h5 (fun j hj => (HFIN.out j hj).more fun b hq => ?_) (fun ad e => ?_)
    · rcases hq with h1 | h1
      · exact .inl h1
      · have := HS3.out
        have := HS45.out
        exact .inr ⟨by omega, by omega⟩
    · subst e
      exact .inr (h5.lt ad.block rfl)
  have np : ¬ ((Q w.heap.size ∧ w.heap.size < w.heap.size) ∨ (w.heap.size + 2 ≤ w.heap.size ∧ w.heap.size < w5.heap.size)) := by omega
  have np1 : ¬ ((Q (w.heap.size + 1) ∧ w.heap.size + 1 < w.heap.size) ∨ (w.heap.size + 2 ≤ w.heap.size + 1 ∧ w.heap.size + 1 < w5.heap.size)) := by omega
  have R6 := (((R5.set (p := ⟨w.heap.size, 2, none⟩) np (.slice A5 (N + 1) c5)).set (p := ⟨w.heap.size + 1, 0, none⟩) np1 (.int .i64 (n : Int))).set (p := ⟨w.heap.size + 1, 1, none⟩) np1 (.int .i64 (m : Int))).set (p := ⟨w.heap.size + 1, 2, none⟩) np1 (.slice A5 (N + 1) c5)
  exact bodyPost_ret (v := .tuple #[.agg #[.int .i64 (n : Int), .int .i64 (m : Int), .slice A5 (N + 1) c5], .int .i64 0]) (by simp [results, Try.results25, go_sem, y20, y21, y22, y10, y11, y12]) rfl ⟨A5, c5, rfl,
    R6.more (fun b hb hq => by
      rcases hq with h1 | h1
      · exact .inl h1.1
      · exact .inr ⟨by omega, by simpa [World.setCell] using hb⟩),
    ((((HB5.out.setCell (p := ⟨w.heap.size, 2, none⟩) (Nat.le_refl _) _).setCell (p := ⟨w.heap.size + 1, 0, none⟩) (Nat.le_succ _) _).setCell (p := ⟨w.heap.size + 1, 1, none⟩) (Nat.le_succ _) _).setCell (p := ⟨w.heap.size + 1, 2, none⟩) (Nat.le_succ _) _)⟩

theorem RefR.narrow {w : World} {Q : Nat → Prop} {A : Option Addr} {c : Nat} {L : List (List Int)} (h : RefR w Q A c L) : RefR w (fun b => Q b ∧ b < w.heap.size) A c L := h.more fun b hb hq => ⟨hq, hb⟩
theorem RefR.tail {w : World} {Q : Nat → Prop} {b off c : Nat} {l : List Int} {L : List (List Int)} (h : RefR w Q (some ⟨b, off, none⟩) c (l :: L)) : RefR w Q (some ⟨b, off + 1, none⟩) (c - 1) L := by
  obtain ⟨vs, h1, hr, h3, h4, h5, h6, h7⟩ := h.ex
  simp only [List.length_cons] at h1 hr h4
  match vs, h1 with
  | v :: vs, h1 =>
    simp only [List.length_cons] at h1
    refine ⟨vs, by omega, ⟨by simp; omega, fun hn => ?_⟩, (fun e => by cases e), by omega, fun u hu => h5 u (by simp [hu]), fun ad e hn => ?_, fun i hi => ?_⟩
    · obtain ⟨ad, e, hlt, hc⟩ := hr.2 (by omega)
      injection e with e; subst e
      refine ⟨_, rfl, hlt, fun j u hu => ?_⟩
      have := hc (j + 1) u (by simpa using hu)
      rw [Addr.add_lit] at this ⊢
      rwa [show off + 1 + j = off + (j + 1) by omega]
    · injection e with e; subst e
      exact h6 ⟨b, off, none⟩ rfl (by simp)
    · have := h7 (i + 1) (by simp; omega)
      simpa using this
theorem RefR.tail0 {w : World} {Q : Nat → Prop} {A : Option Addr} {c : Nat} (hA : A = none → c = 0) : RefR w Q A c [] := ⟨[], rfl, ⟨by simp, fun h => by simp at h⟩, hA, by simp, fun u hu => by simp at hu, fun ad e h => by simp at h, fun i hi => by simp at hi⟩
theorem rtake_none (n m : Int) (A : Option Addr) (c : Nat) (w : World) :
    Calls Try.prog 27 #[.agg #[.int .i64 n, .int .i64 m, .slice A 0 c]] w fun e w' => e = .returned (.tuple #[.agg #[.int .i64 n, .int .i64 m, .slice A 0 c], .slice none 0 0, .bool false]) ∧ Below w.heap.size w w' := by
  go_enter Try.func27, Try.ntmps27
  go_wp2_with fail
  exact bodyPost_ret (v := .tuple #[.agg #[.int .i64 n, .int .i64 m, .slice A 0 c], .slice none 0 0, .bool false]) (by simp [results, Try.results27, go_sem]) rfl ⟨rfl, ((Below.refl _ _).alloc (Nat.le_refl _) _).alloc (by simp) _⟩
set_option maxHeartbeats 1000000 in
theorem rtake_raw (n m : Nat) (w : World) (b off c N kl cv : Nat) (Av : Option Addr) (l : List Int) (u : Value) (A' : Option Addr) (c' : Nat) (hcell : w.cell? ⟨b, off, none⟩ = some (.slice Av kl cv)) (hb : b < w.heap.size) (hr : Reads w w.heap.size 1 Av kl (U l)) (hkl : kl ≤ 1048576) (hN : N + 1 ≤ c) (hN' : N ≤ 40)
    (hsl : (c = 1 ∧ A' = some ⟨b, off, none⟩ ∧ c' = 0) ∨ (c ≠ 1 ∧ A' = some ⟨b, off + 1, none⟩ ∧ c' = c - 1)) :
    Calls Try.prog 27 #[.agg #[.int .i64 (n : Int), .int .i64 (m : Int), .slice (some ⟨b, off, none⟩) (N + 1) c]] w fun e w' => ∃ Am cm, e = .returned (.tuple #[.agg #[.int .i64 (n : Int), .int .i64 (m : Int), .slice A' N c'], .slice Am kl cm, .bool true]) ∧
      Slot w' (fun b => w.heap.size + 2 ≤ b ∧ b < w'.heap.size) (.slice Am kl cm) l ∧ (∀ k, k < w.heap.size → w'.heap[k]? = w.heap[k]?) ∧ Below w.heap.size w w' := by
  have ne : ¬ ((N : Int) + 1 = 0) := by omega
  have ll : l.length = kl := by have := hr.1; simpa using this
  have W2 : ∀ (u0 u1 u2 : Value), Below w.heap.size w ((w.alloc (.cells #[.int .i64 (n : Int), .int .i64 (m : Int), .slice (some ⟨b, off, none⟩) (N + 1) c] 26)).alloc (.cells #[u0, u1, u2] 26)) := fun u0 u1 u2 => ((Below.refl _ _).alloc (Nat.le_refl _) _).alloc (by simp) _
  have HW2 := Lib.hid W2
  have hcell2 : ∀ (u0 u1 u2 : Value), ((w.alloc (.cells #[.int .i64 (n : Int), .int .i64 (m : Int), .slice (some ⟨b, off, none⟩) (N + 1) c] 26)).alloc (.cells #[u0, u1, u2] 26)).cell? ⟨b, off, none⟩ = some (.slice Av kl cv) := fun u0 u1 u2 => cell_later (HW2.out u0 u1 u2) hcell
  have hc2 := hcell2 (.int .i64 0) (.int .i64 0) (.slice none 0 0)
  have CP := Lib.hid fun (W : World) (h : Below w.heap.size w W) => copy_any Av kl cv l W ((hr.below h).more h.size) hkl
  have HLL := Lib.hid ll
  have HB := Lib.hid hb
  have HN := Lib.hid hN
  have HN2 := Lib.hid hN'
  clear hr ll hkl hcell hcell2 W2 hN'
  rcases hsl with ⟨h1, rfl, rfl⟩ | ⟨h1, rfl, rfl⟩
  · subst h1
    obtain rfl : N = 0 := by omega
    clear hN
    go_enter Try.func27, Try.ntmps27
    go_wp2_with fail
    refine (CP.out _ (HW2.out _ _ _)).mono ?_
    rintro e w3 ⟨A3, c3, rfl, ho3, b3⟩
    have s2 : ∀ (u0 u1 u2 : Value), ((w.alloc (.cells #[.int .i64 (n : Int), .int .i64 (m : Int), .slice (some ⟨b, off, none⟩) (0 + 1) 1] 26)).alloc (.cells #[u0, u1, u2] 26)).heap.size = w.heap.size + 2 := fun _ _ _ => by simp
    have X1 := ((box_new w (.int .i64 (n : Int)) (.int .i64 (m : Int)) (.slice (some ⟨b, off, none⟩) (0 + 1) 1) 26).below ((Below.refl _ _).alloc (Nat.le_refl _) (.cells #[.int .i64 0, .int .i64 0, .slice none 0 0] 26))).below b3
    have X2 : Box w3 (w.heap.size + 1) (.int .i64 0) (.int .i64 0) (.slice none 0 0) := by
      have := box_new (w.alloc (.cells #[.int .i64 (n : Int), .int .i64 (m : Int), .slice (some ⟨b, off, none⟩) (0 + 1) 1] 26)) (.int .i64 0) (.int .i64 0) (.slice none 0 0) 26
      rw [show (w.alloc (.cells #[.int .i64 (n : Int), .int .i64 (m : Int), .slice (some ⟨b, off, none⟩) (0 + 1) 1] 26)).heap.size = w.heap.size + 1 by simp] at this
      exact this.below b3
    have HB3 := Lib.hid ((HW2.out _ _ _).trans (b3.mono (HW2.out _ _ _).size))
    rw [s2] at ho3
    have SL := Lib.hid (slot_own ho3)
    have x10 := X1.c0
    have x11 := X1.c1
    have x12 := X1.c2
    have x1f := X1.fz
    have x20 := X2.c0
    have x21 := X2.c1
    have x22 := X2.c2
    have x2f := X2.fz
    clear X1 X2 ho3 s2 CP b3 hc2
    go_wp2_with fail
    have B6 := ((((HB3.out.setCell (p := ⟨w.heap.size, 2, none⟩) (Nat.le_refl _) (.slice (some ⟨b, off, none⟩) 0 0)).setCell (p := ⟨w.heap.size + 1, 0, none⟩) (Nat.le_succ _) (.int .i64 (n : Int))).setCell (p := ⟨w.heap.size + 1, 1, none⟩) (Nat.le_succ _) (.int .i64 (m : Int))).setCell (p := ⟨w.heap.size + 1, 2, none⟩) (Nat.le_succ _) (.slice (some ⟨b, off, none⟩) 0 0))
    have np : ¬ (w.heap.size + 2 ≤ w.heap.size ∧ w.heap.size < w3.heap.size) := by omega
    have np1 : ¬ (w.heap.size + 2 ≤ w.heap.size + 1 ∧ w.heap.size + 1 < w3.heap.size) := by omega
    have S6 := (((SL.out.set np 2 (.slice (some ⟨b, off, none⟩) 0 0)).set np1 0 (.int .i64 (n : Int))).set np1 1 (.int .i64 (m : Int))).set np1 2 (.slice (some ⟨b, off, none⟩) 0 0)
    exact bodyPost_ret (v := .tuple #[.agg #[.int .i64 (n : Int), .int .i64 (m : Int), .slice (some ⟨b, off, none⟩) 0 0], .slice A3 kl c3, .bool true]) (by simp [results, Try.results27, go_sem, x10, x11, x12, x20, x21, x22]) rfl ⟨A3, c3, rfl, S6.more (fun b hb => ⟨hb.1, by simpa [World.setCell] using hb.2⟩), B6.block, B6⟩
  · have nc1 : ((N : Int) + 1) ≤ (c : Int) := by omega
    clear hN
    go_enter Try.func27, Try.ntmps27
    go_wp2_with fail
    refine (CP.out _ (HW2.out _ _ _)).mono ?_
    rintro e w3 ⟨A3, c3, rfl, ho3, b3⟩
    have s2 : ∀ (u0 u1 u2 : Value), ((w.alloc (.cells #[.int .i64 (n : Int), .int .i64 (m : Int), .slice (some ⟨b, off, none⟩) (N + 1) c] 26)).alloc (.cells #[u0, u1, u2] 26)).heap.size = w.heap.size + 2 := fun _ _ _ => by simp
    have X1 := ((box_new w (.int .i64 (n : Int)) (.int .i64 (m : Int)) (.slice (some ⟨b, off, none⟩) (N + 1) c) 26).below ((Below.refl _ _).alloc (Nat.le_refl _) (.cells #[.int .i64 0, .int .i64 0, .slice none 0 0] 26))).below b3
    have X2 : Box w3 (w.heap.size + 1) (.int .i64 0) (.int .i64 0) (.slice none 0 0) := by
      have := box_new (w.alloc (.cells #[.int .i64 (n : Int), .int .i64 (m : Int), .slice (some ⟨b, off, none⟩) (N + 1) c] 26)) (.int .i64 0) (.int .i64 0) (.slice none 0 0) 26
      rw [show (w.alloc (.cells #[.int .i64 (n : Int), .int .i64 (m : Int), .slice (some ⟨b, off, none⟩) (N + 1) c] 26)).heap.size = w.heap.size + 1 by simp] at this
      exact this.below b3
    have HB3 := Lib.hid ((HW2.out _ _ _).trans (b3.mono (HW2.out _ _ _).size))
    rw [s2] at ho3
    have SL := Lib.hid (slot_own ho3)
    have x10 := X1.c0
    have x11 := X1.c1
    have x12 := X1.c2
    have x1f := X1.fz
    have x20 := X2.c0
    have x21 := X2.c1
    have x22 := X2.c2
    have x2f := X2.fz
    clear X1 X2 ho3 s2 CP b3 hc2
    go_wp2_with fail
    have B6 := ((((HB3.out.setCell (p := ⟨w.heap.size, 2, none⟩) (Nat.le_refl _) (.slice (some ⟨b, off + 1, none⟩) N (c - 1))).setCell (p := ⟨w.heap.size + 1, 0, none⟩) (Nat.le_succ _) (.int .i64 (n : Int))).setCell (p := ⟨w.heap.size + 1, 1, none⟩) (Nat.le_succ _) (.int .i64 (m : Int))).setCell (p := ⟨w.heap.size + 1, 2, none⟩) (Nat.le_succ _) (.slice (some ⟨b, off + 1, none⟩) N (c - 1)))
    have np : ¬ (w.heap.size + 2 ≤ w.heap.size ∧ w.heap.size < w3.heap.size) := by omega
    have np1 : ¬ (w.heap.size + 2 ≤ w.heap.size + 1 ∧ w.heap.size + 1 < w3.heap.size) := by omega
    have S6 := (((SL.out.set np 2 (.slice (some ⟨b, off + 1, none⟩) N (c - 1))).set np1 0 (.int .i64 (n : Int))).set np1 1 (.int .i64 (m : Int))).set np1 2 (.slice (some ⟨b, off + 1, none⟩) N (c - 1))
    exact bodyPost_ret (v := .tuple #[.agg #[.int .i64 (n : Int), .int .i64 (m : Int), .slice (some ⟨b, off + 1, none⟩) N (c - 1)], .slice A3 kl c3, .bool true]) (by simp [results, Try.results27, go_sem, x10, x11, x12, x20, x21, x22]) rfl ⟨A3, c3, rfl, S6.more (fun b hb => ⟨hb.1, by simpa [World.setCell] using hb.2⟩), B6.block, B6⟩


theorem rtake_some (n m : Nat) (w : World) (Q : Nat → Prop) (A : Option Addr) (c : Nat) (l : List Int) (L : List (List Int)) (h : RefR w Q A c (l :: L)) (hl : l.length ≤ 1048576) (hL : L.length ≤ 40) :
    Calls Try.prog 27 #[.agg #[.int .i64 (n : Int), .int .i64 (m : Int), .slice A (l :: L).length c]] w fun e w' => ∃ A' c' Am cm, e = .returned (.tuple #[.agg #[.int .i64 (n : Int), .int .i64 (m : Int), .slice A' L.length c'], .slice Am l.length cm, .bool true]) ∧
      RefR w' Q A' c' L ∧ Slot w' (fun b => w.heap.size ≤ b ∧ b < w'.heap.size) (.slice Am l.length cm) l ∧ Below w.heap.size w w' := by
  obtain ⟨b, off, rfl, hp⟩ := place_row h (by simp)
  obtain ⟨v, hc, hs⟩ := hp 0 (by simp)
  obtain ⟨Av, cv, hv, _, hr, _⟩ := hs.ex
  simp only [List.getD_cons_zero] at hv hr
  subst hv
  have hb : b < w.heap.size := by
    have := World.block_lt_of_cell? _ _ hc
    exact this
  have hcap : L.length + 1 ≤ c := by
    obtain ⟨vs, _, _, _, h4, _⟩ := h.ex
    simpa using h4
  have hn := h.narrow
  rw [Nat.add_zero] at hc
  by_cases hc1 : c = 1
  · have hL0 : L.length = 0 := by omega
    have e : L = [] := List.eq_nil_of_length_eq_zero hL0
    refine (rtake_raw n m w b off c L.length l.length cv Av l undef (some ⟨b, off, none⟩) 0 hc hb hr hl hcap hL (.inl ⟨hc1, rfl, rfl⟩)).mono ?_
    rintro e1 w' ⟨Am, cm, rfl, hsl, _, hB⟩
    refine ⟨_, _, Am, cm, rfl, ?_, hsl.more (fun b hb => ⟨by omega, hb.2⟩), hB⟩
    rw [e]; exact RefR.tail0 (fun e => by cases e)
  · refine (rtake_raw n m w b off c L.length l.length cv Av l undef (some ⟨b, off + 1, none⟩) (c - 1) hc hb hr hl hcap hL (.inr ⟨hc1, rfl, rfl⟩)).mono ?_
    rintro e1 w' ⟨Am, cm, rfl, hsl, _, hB⟩
    exact ⟨_, _, Am, cm, rfl, ((hn.tail).below hB).more (fun b _ hq => hq.1), hsl.more (fun b hb => ⟨by omega, hb.2⟩), hB⟩
end Go.Proofs.Ytpejmkdmjlfgpaa
