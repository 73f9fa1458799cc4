/-
  Plans: how they lie in memory; has, NewPlan, Request, Mode, Wanted, Now. Each statement bears its own conditions.
-/
import Derived.Test.YtcnhghnkocdjkaaFrD
namespace Go.Proofs.Ytcnhghnkocdjkaa
open Go.RowKit
set_option linter.unusedVariables false
set_option linter.unusedSimpArgs false
structure MP where
  ts : List MT
  mode : Int
  next : Int
  now : Int
  tick : Int
/-- Tables that stay whatever is written outside of their blocks. -/
def TabsAt (lo hi g : Nat) (w : World) (v : Value) (ts : List MT) : Prop := ∀ w' : World, hi ≤ w'.heap.size → (∀ k, lo ≤ k → k < hi → k ≠ g → w'.heap[k]? = w.heap[k]?) → Row w' 2 (RT w') v ts
/-- A plan at block g, its memory within lo and hi. -/
structure PF (lo hi g : Nat) (w : World) (p : MP) : Prop where
  ex : ∃ v : Value, w.heap[g]? = some (.cells #[v, .int .i64 p.mode, .int .i64 p.next, .int .i64 p.now, .int .i64 p.tick] 79 (0, 0)) ∧ lo ≤ g ∧ g < hi ∧ hi ≤ w.heap.size ∧ TabsAt lo hi g w v p.ts
theorem TabsAt.keep {lo hi g : Nat} {w w1 : World} {v : Value} {ts : List MT} (h : TabsAt lo hi g w v ts) (hs : ∀ k, lo ≤ k → k < hi → k ≠ g → w1.heap[k]? = w.heap[k]?) : TabsAt lo hi g w1 v ts :=
  fun w' h1 h2 => h w' h1 fun k a b c => (h2 k a b c).trans (hs k a b c)
theorem PF.below {lo hi g : Nat} {w w' : World} {p : MP} (h : PF lo hi g w p) (hb : Below w.heap.size w w') : PF lo hi g w' p := by
  obtain ⟨v, h1, h2, h3, h4, h5⟩ := h.ex
  exact ⟨v, (hb.block g (by omega)).trans h1, h2, h3, Nat.le_trans h4 hb.size, h5.keep fun k _ hk _ => hb.block k (by omega)⟩
theorem PF.other {lo hi g g2 : Nat} {w w' : World} {p : MP} (h : PF lo hi g w p) (hb : Past g2 w w') (ho : g2 < lo ∨ hi ≤ g2) : PF lo hi g w' p := by
  obtain ⟨v, h1, h2, h3, h4, h5⟩ := h.ex
  exact ⟨v, (hb.block g (by omega) (by omega)).trans h1, h2, h3, Nat.le_trans h4 hb.size, h5.keep fun k _ hk _ => hb.block k (by omega) (by omega)⟩
theorem PF.lt {lo hi g : Nat} {w : World} {p : MP} (h : PF lo hi g w p) : lo ≤ g ∧ g < hi ∧ hi ≤ w.heap.size := by
  obtain ⟨v, h1, h2, h3, h4, h5⟩ := h.ex
  exact ⟨h2, h3, h4⟩
/-- A plan's cells, opened. -/
theorem PF.open_ {lo hi g : Nat} {w : World} {p : MP} (h : PF lo hi g w p) : ∃ (a : Option Addr) (c : Nat), w.heap[g]? = some (.cells #[.slice a p.ts.length c, .int .i64 p.mode, .int .i64 p.next, .int .i64 p.now, .int .i64 p.tick] 79 (0, 0)) ∧
    Row w 2 (RT w) (.slice a p.ts.length c) p.ts ∧ TabsAt lo hi g w (.slice a p.ts.length c) p.ts ∧ p.ts.length ≤ 8796093021952 := by
  obtain ⟨v, h1, h2, h3, h4, h5⟩ := h.ex
  have hr := h5 w h4 fun _ _ _ _ => rfl
  obtain ⟨a, c, rfl, hm⟩ := hr.form
  exact ⟨a, c, h1, hr, h5, hm⟩
def chkTs : List MT → Int
  | [] => 0
  | t :: r => if chk t.fr t.ws = 0 then chkTs r else chk t.fr t.ws
def newErr (ts : List MT) (mode : Int) : Int :=
  if ts.length < 1 then 1 else if 8 < ts.length then 1 else if chkTs ts = 0 then if 0 ≤ mode then if mode < ts.length then 0 else 19 else 19 else chkTs ts
theorem chkTs_zero {ts : List MT} (h : chkTs ts = 0) : ∀ t ∈ ts, chk t.fr t.ws = 0 := by
  induction ts with
  | nil => simp
  | cons x r ih =>
    unfold chkTs at h
    by_cases h0 : chk x.fr x.ws = 0
    · rw [if_pos h0] at h
      intro t ht
      rcases List.mem_cons.1 ht with rfl | ht
      · exact h0
      · exact ih h t ht
    · rw [if_neg h0] at h
      exact absurd h h0
set_option maxRecDepth 100000 in
set_option maxHeartbeats 4000000 in
theorem has_any (lo hi g : Nat) (p : MP) (mode : Int) (w : World) (h : PF lo hi g w p) :
    Calls Try.prog 40 #[.pointer (some ⟨g, 0, none⟩), .int .i64 mode] w fun e w' => e = .returned (.bool (decide (0 ≤ mode) && decide (mode < (p.ts.length : Int)))) ∧ Below w.heap.size w w' := by
  obtain ⟨a, c, h1, _, _, hm⟩ := h.open_
  have d0 := (row_cell h1 0).1
  simp at d0
  obtain ⟨n, hn⟩ : ∃ n, p.ts.length = n := ⟨_, rfl⟩
  rw [hn] at d0 ⊢
  clear h h1 hm hn
  by_cases h0 : 0 ≤ mode
  · by_cases h1 : mode < (n : Int)
    · go_enter Try.func40, Try.ntmps40
      go_wp2_with fail
      go_ret
      exact ⟨by simp [h0, h1], Below.refl _ _⟩
    · go_enter Try.func40, Try.ntmps40
      go_wp2_with fail
      go_ret
      exact ⟨by simp; omega, Below.refl _ _⟩
  · go_enter Try.func40, Try.ntmps40
    go_wp2_with fail
    go_ret
    exact ⟨by simp; omega, Below.refl _ _⟩
structure NPRel (n : Nat) (ts : List MT) (w : World) (v : Value) (wr : World) : Prop where
  ex : ∃ k : Nat, k ≤ n ∧ v = .int .i64 (k : Int) ∧ chkTs ts = chkTs (ts.drop k) ∧ Below w.heap.size w wr
set_option maxRecDepth 100000 in
set_option maxHeartbeats 4000000 in
theorem new_any (v : Value) (ts : List MT) (mode : Int) (w : World) (h : Row w 2 (RT w) v ts) (hw : ∀ t ∈ ts, t.ws.length ≤ 70) (hmode : I64 mode) :
    Calls Try.prog 29 #[v, .int .i64 mode] w fun e w' => ((newErr ts mode ≠ 0 ∧ e = .returned (.tuple #[.pointer none, .int .i64 (newErr ts mode)])) ∨ (newErr ts mode = 0 ∧ ∃ g hi, e = .returned (.tuple #[.pointer (some ⟨g, 0, none⟩), .int .i64 0]) ∧ PF w.heap.size hi g w' ⟨ts, mode, mode, 0, 0⟩)) ∧ Below w.heap.size w w' := by
  obtain ⟨a, cap, rfl, hm⟩ := h.form
  obtain ⟨n, hn⟩ : ∃ n, ts.length = n := ⟨_, rfl⟩
  have H0 := Lib.hid h
  rw [hn] at h ⊢
  have HN := Lib.hid hn
  have H := Lib.hid h
  have HW := Lib.hid hw
  obtain ⟨r, hr⟩ : ∃ r, newErr ts mode = r := ⟨_, rfl⟩
  rw [hr]
  unfold newErr at hr
  rw [hn] at hr
  clear hn h hw hm
  by_cases h1 : n < 1
  · rw [if_pos h1] at hr
    subst hr
    have h1' : (n : Int) < 1 := by omega
    go_enter Try.func29, Try.ntmps29
    go_wp2_with fail
    go_ret2
    first | exact ⟨rfl, Below.refl _ _⟩ | exact ⟨.inl ⟨by decide, rfl⟩, Below.refl _ _⟩
  rw [if_neg h1] at hr
  have h1' : ¬ (n : Int) < 1 := by omega
  by_cases h2 : 8 < n
  · rw [if_pos h2] at hr
    subst hr
    have h2' : (8 : Int) < (n : Int) := by omega
    go_enter Try.func29, Try.ntmps29
    go_wp2_with fail
    go_ret2
    first | exact ⟨rfl, Below.refl _ _⟩ | exact ⟨.inl ⟨by decide, rfl⟩, Below.refl _ _⟩
  rw [if_neg h2] at hr
  have h2' : ¬ (8 : Int) < (n : Int) := by omega
  have HR := Lib.hid hr
  have HM : Hid (n ≤ 8) := by unfold Hid; omega
  clear hr h1 h2
  go_enter Try.func29, Try.ntmps29
  go_wp2_with fail
  go_loopw [20] (fun v wr => NPRel n ts w v wr) (fun v => fun _ => n - (intOf v).toNat)
  case atStart => exact ⟨⟨0, Nat.zero_le _, rfl, by simp, Below.refl _ _⟩⟩
  case round =>
    obtain ⟨⟨k, hk, rfl, hch, hb⟩⟩ := hrel
    have HK := Lib.hid hk
    have HC := Lib.hid hch
    have HB := Lib.hid hb
    clear hk hch hb
    by_cases hlt : k < n
    · have hkI : (k : Int) < (n : Int) := by omega
      have HX : Hid (k < n) := hlt
      obtain ⟨hnx, b, off, x, cs, rfl, hbl, hx, hR, _, hc⟩ := H.out.at_ k hlt
      clear hnx
      have hdr := drop_cons hx
      obtain ⟨xf, xws⟩ := x
      obtain ⟨xv, rfl, hxi, hxr⟩ := hR
      have d0 : wr.cell? ⟨b, off + k * 2, none⟩ = some (.int .i64 xf) := cell_later HB.out (hc 0 _ rfl)
      have d1 : wr.cell? ⟨b, off + k * 2 + 1, none⟩ = some xv := cell_later HB.out (hc 1 _ rfl)
      have C := Lib.hid (check_any xf xv xws (wr.alloc (.cells #[.int .i64 xf, xv] 24)) ((hxr.below HB.out).alloc _))
      obtain ⟨ck, hck⟩ : ∃ ck, chk xf xws = ck := ⟨_, rfl⟩
      have HST : Hid (chkTs ts = if ck = 0 then chkTs (ts.drop (k + 1)) else ck) := by
        unfold Hid; rw [HC.out, hdr, ← hck]; rfl
      rw [hck] at C
      obtain ⟨xa, xc, rfl, hxm⟩ := hxr.form
      obtain ⟨xn, hxn⟩ : ∃ xn, xws.length = xn := ⟨_, rfl⟩
      rw [hxn] at C d1
      clear hc hxi hxr hbl hx hlt hxm hxn hdr hck
      go_wp2_with fail
      refine C.out.mono ?_
      rintro e W1 ⟨rfl, b1⟩
      have HB1 : Hid (Below w.heap.size w W1) := (HB.out.alloc HB.out.size _).trans (b1.mono (by have := HB.out.size; simp; omega))
      clear b1 C d0 d1
      by_cases hc0 : ck = 0
      · subst hc0
        have HQ : Hid (chkTs ts = chkTs (ts.drop (k + 1))) := by unfold Hid; rw [HST.out, if_pos rfl]
        go_wp2_with fail
        go_roundw
        case rel =>
          have Q : NPRel n ts w (.int .i64 ((k : Int) + 1)) W1 := ⟨⟨k + 1, HX.out, by go_num, HQ.out, HB1.out⟩⟩
          first | exact Q | ((repeat apply Exists.intro); exact ⟨Q, rfl⟩)
        case measure => have := HX.out; simp [intOf]; omega
      · have hcb : (ck == 0) = false := by simpa using hc0
        have hcc : (ck != 0) = true := by simpa using hc0
        have HZ : Hid (r = ck) := by
          unfold Hid
          rw [← HR.out, HST.out, if_neg hc0, if_neg hc0]
        have HC0 := Lib.hid hc0
        go_wp2_with fail
        go_ret2
        exact ⟨.inl ⟨by rw [HZ.out]; exact HC0.out, by rw [HZ.out]; rfl⟩, HB1.out⟩
    · have hkI : ¬ (k : Int) < (n : Int) := by omega
      have hkn : k = n := by have := HK.out; omega
      have HZ : Hid (r = if 0 ≤ mode then if mode < (n : Int) then 0 else 19 else 19) := by
        unfold Hid
        have h0 : chkTs ts = 0 := by rw [HC.out, hkn, List.drop_of_length_le (by have := HN.out; omega)]; rfl
        rw [← HR.out, if_pos h0]
      have CT := Lib.hid (tables_any (.slice a ts.length cap) ts wr (H0.out.keep HB.out fun _ _ h => h.below HB.out) (by have := HN.out; have := HM.out; omega) HW.out)
      rw [HN.out] at CT
      clear hkn
      go_wp2_with fail
      refine CT.out.mono ?_
      rintro e W1 ⟨⟨rv, rfl, hown⟩, b1⟩
      obtain ⟨ra, rc, rfl⟩ := hown.form
      rw [HN.out] at hown
      simp only [HN.out]
      obtain ⟨W2, hW2⟩ : ∃ W2, W1.alloc (.cells #[.slice ra n rc, .int .i64 mode, .int .i64 mode, .int .i64 0, .int .i64 0] 79) = W2 := ⟨_, rfl⟩
      have HP : Hid (PF wr.heap.size (W1.heap.size + 1) W1.heap.size W2 ⟨ts, mode, mode, 0, 0⟩) := by
        refine ⟨.slice ra n rc, by rw [← hW2]; exact heap_alloc_new _ _, b1.size, by omega, by rw [← hW2]; simp, fun w' hs hk => ?_⟩
        refine (hown.same fun q h1 h2 => ?_).row
        rw [hk q h1 (by omega) (by omega), ← hW2]
        exact ((Below.refl _ _).alloc (Nat.le_refl _) _).block q h2
      have HB2 : Hid (Below w.heap.size w W2) := by
        have h2 : Below w.heap.size w W1 := HB.out.trans (b1.mono HB.out.size)
        rw [← hW2]; exact h2.alloc h2.size _
      have C := Lib.hid (has_any _ _ _ _ mode W2 HP.out)
      dsimp only at C
      rw [HN.out] at C
      obtain ⟨t, ht⟩ : ∃ t, (decide (0 ≤ mode) && decide (mode < (n : Int))) = t := ⟨_, rfl⟩
      rw [ht] at C
      have HTT := Lib.hid ht
      have HSZ := Lib.hid HB.out.size
      clear hown b1 ht
      go_wp2_with fail
      clear hW2
      refine C.out.mono ?_
      rintro e W3 ⟨rfl, b3⟩
      have HP3 : Hid (PF w.heap.size (W1.heap.size + 1) W1.heap.size W3 ⟨ts, mode, mode, 0, 0⟩) := by
        obtain ⟨v', h1, h2, h3, h4, h5⟩ := (HP.out.below b3).ex
        exact ⟨v', h1, Nat.le_trans HSZ.out h2, h3, h4, fun w' a b => h5 w' a fun k c d e => b k (Nat.le_trans HSZ.out c) d e⟩
      have HB3 : Hid (Below w.heap.size w W3) := HB2.out.trans (b3.mono HB2.out.size)
      clear b3
      cases t with
      | true =>
        have HZ2 : Hid (r = 0) := by
          have := HTT.out
          simp at this
          unfold Hid
          rw [HZ.out, if_pos this.1, if_pos this.2]
        go_wp2_with fail
        go_ret2
        exact ⟨.inr ⟨HZ2.out, _, _, rfl, HP3.out⟩, HB3.out⟩
      | false =>
        have HZ2 : Hid (r = 19) := by
          have := HTT.out
          simp at this
          unfold Hid
          rw [HZ.out]
          by_cases h0 : 0 ≤ mode
          · rw [if_pos h0, if_neg (by have := this h0; omega)]
          · rw [if_neg h0]
        go_wp2_with fail
        go_ret2
        exact ⟨.inl ⟨by rw [HZ2.out]; decide, by rw [HZ2.out]; rfl⟩, HB3.out⟩
end Go.Proofs.Ytcnhghnkocdjkaa
