/-
  A space in memory, and the contract of New. Each statement bears its own conditions.
-/
import Derived.Test.YtliggejkpmlgfaaSpB
namespace Go.Proofs.Ytliggejkpmlgfaa
open Go.RowKit
set_option linter.unusedVariables false
set_option linter.unusedSimpArgs false
theorem own_base {w : World} {b0 b1 e size n : Nat} {v : Value} {xs : List Value} (h : w.ownsRow b1 e size v n xs) (hb : b0 ≤ b1) : w.ownsRow b0 e size v n xs := by
  refine ⟨h.1, ?_⟩
  rcases h.2 with h1 | ⟨g, cap, cur, hv, hbg, r⟩
  · exact .inl h1
  · exact .inr ⟨g, cap, cur, hv, Nat.le_trans hb hbg, r⟩
theorem own_same {w w' : World} {b e size n : Nat} {v : Value} {xs : List Value} (h : w.ownsRow b e size v n xs) (hs : ∀ g, v.ownBlock = some g → w'.heap[g]? = w.heap[g]?) : w'.ownsRow b e size v n xs := by
  refine ⟨h.1, ?_⟩
  rcases h.2 with h1 | ⟨g, cap, cur, hv, hbg, hg, r⟩
  · exact .inl h1
  · refine .inr ⟨g, cap, cur, hv, hbg, ?_, r⟩
    subst hv
    rw [hs g rfl]; exact hg
/-- A space in memory: its own block p, its words in block rb, all of it from lo to hi. -/
structure SP (lo hi : Nat) (w : World) (p rb : Nat) (l : List MA) (ws : List Int) : Prop where
  hs : hi ≤ w.heap.size
  hp : lo ≤ p ∧ p < hi
  hr : lo ≤ rb ∧ rb < hi
  ne : p ≠ rb
  ex : ∃ va cap, w.heap[p]? = some (.cells #[va, .slice (some ⟨rb, 0, none⟩) ws.length cap] 71 (0, 0)) ∧ w.ownsRow lo 57 5 va l.length (CA l) ∧ (∀ k, va.ownBlock = some k → k ≠ rb ∧ k < hi) ∧ w.ownsRow lo 39 1 (.slice (some ⟨rb, 0, none⟩) ws.length cap) ws.length (CU ws)
theorem SP.keep {lo hi : Nat} {w w' : World} {p rb : Nat} {l : List MA} {ws : List Int} (h : SP lo hi w p rb l ws) (hz : hi ≤ w'.heap.size) (hk : ∀ k, lo ≤ k → k < hi → w'.heap[k]? = w.heap[k]?) : SP lo hi w' p rb l ws := by
  obtain ⟨va, cap, h1, h2, h3, h4⟩ := h.ex
  refine ⟨hz, h.hp, h.hr, h.ne, va, cap, (hk p h.hp.1 h.hp.2).trans h1, own_same h2 fun g hg => hk g (h2.lt g hg).1 (h3 g hg).2, h3, own_same h4 fun g hg => ?_⟩
  injection hg with hg
  subst hg
  exact hk rb h.hr.1 h.hr.2
theorem SP.below {lo hi : Nat} {w w' : World} {p rb : Nat} {l : List MA} {ws : List Int} (h : SP lo hi w p rb l ws) (hb : Below w.heap.size w w') : SP lo hi w' p rb l ws :=
  h.keep (Nat.le_trans h.hs hb.size) fun k _ hk => hb.block k (Nat.lt_of_lt_of_le hk h.hs)
theorem SP.past {lo hi g : Nat} {w w' : World} {p rb : Nat} {l : List MA} {ws : List Int} (h : SP lo hi w p rb l ws) (hb : Past g w w') (hg : g < lo ∨ hi ≤ g) : SP lo hi w' p rb l ws :=
  h.keep (Nat.le_trans h.hs hb.size) fun k h1 h2 => hb.block k (Nat.lt_of_lt_of_le h2 h.hs) (by omega)
theorem SP.st {lo hi : Nat} {w : World} {p rb : Nat} {l : List MA} {ws : List Int} (h : SP lo hi w p rb l ws) : ∃ A c cap, w.heap[p]? = some (.cells #[.slice A l.length c, .slice (some ⟨rb, 0, none⟩) ws.length cap] 71 (0, 0)) ∧ St rb w 5 (.slice A l.length c) l.length (CA l) ∧ w.ownsRow lo 39 1 (.slice (some ⟨rb, 0, none⟩) ws.length cap) ws.length (CU ws) ∧ ws.length ≤ cap := by
  obtain ⟨va, cap, h1, h2, h3, h4⟩ := h.ex
  obtain ⟨A, c, e⟩ := slice_form h2
  subst e
  refine ⟨A, c, cap, h1, ⟨A, c, rfl, h2.1, fun hn => ?_⟩, h4, ?_⟩
  · obtain ⟨g', cap', hv, hB, hlt⟩ := h2.form hn
    have hA : A = some ⟨g', 0, none⟩ := by injection hv
    subst hA
    refine ⟨g', 0, rfl, hlt, (h3 g' rfl).1, fun j u hu => ?_⟩
    have := h2.cells (g := g') rfl j u hu
    rw [Addr.add_lit] at this
    simpa using this
  · rcases h4.2 with ⟨h5, _⟩ | ⟨g', cap', cur, hv, _, _, h6, _⟩
    · cases h5
    · injection hv with e1 e2 e3
      omega
theorem CA_take (l : List MA) (k : Nat) : (CA l).take (k * 5) = CA (l.take k) := by
  induction l generalizing k with
  | nil => simp [CA]
  | cons x r ih =>
    cases k with
    | zero => simp [CA]
    | succ k =>
      have hx : (k + 1) * 5 = x.cells.length + k * 5 := by simp [MA.cells]; omega
      have := ih k
      unfold CA at *
      rw [List.flatMap_cons, List.take_succ_cons, List.flatMap_cons, hx, List.take_length_add_append, this]
theorem St.cut5 {g : Nat} {w : World} {A : Option Addr} {n m c : Nat} {l : List MA} (h : St g w 5 (.slice A n c) n (CA l)) (hm : m ≤ n) : St g w 5 (.slice A m c) m (CA (l.take m)) := by
  obtain ⟨A', c', e, hl, h1⟩ := h.ex
  injection e with e1 e2 e3
  subst e1 e3
  rw [← CA_take]
  refine ⟨A, c, rfl, by rw [List.length_take, hl]; omega, fun h0 => ?_⟩
  obtain ⟨b, off, e1, hb, hg, hc⟩ := h1 (by omega)
  refine ⟨b, off, e1, hb, hg, fun j u hu => hc j u ?_⟩
  rw [List.getElem?_take] at hu
  split at hu
  · exact hu
  · cases hu
/-- Does an area meet one ahead of it? -/
def ovL : List MA → List MA → Bool
  | _, [] => false
  | pre, x :: r => pre.any (ovB x) || ovL (pre ++ [x]) r
def newErr (l : List MA) : Int := if 16 < l.length then 1 else if l.all fitsB = false then 2 else if 4096 < sumW l then 8 else if ovL [] l = true then 22 else 0
def zeros (l : List MA) : List Int := List.replicate (sumW l).toNat 0
theorem ga_of {l : List MA} (h : l.all fitsB = true) : GA l := fun x hx => fits_iff.1 (List.all_eq_true.1 h x hx)
theorem sumW_le {l : List MA} (h : GA l) : sumW l ≤ l.length * 65536 := by
  induction l with
  | nil => simp [sumW]
  | cons x r ih =>
    have := h x (by simp)
    have := ih (fun y hy => h y (by simp [hy]))
    simp only [sumW, List.length_cons]; omega
theorem all_drop {l : List MA} {k : Nat} {x : MA} (h : l[k]? = some x) (hk : l.all fitsB = (l.drop k).all fitsB) : l.all fitsB = (fitsB x && (l.drop (k + 1)).all fitsB) := by
  rw [hk, drop_cons h]; rfl
theorem madeU (n : Nat) : (madeCells #[.int .u32 0] n).toList = CU (List.replicate n 0) := by
  unfold madeCells CU
  simp
  rw [List.eq_replicate_iff]
  simp
  intro a _
  rw [Nat.mod_one]; rfl
theorem make_u32 (n : Nat) (hn : n ≤ 1048576) (W : World) : (Instr.makeSlice 40 (.int .i64 (n : Int)) (.int .i64 (n : Int))).run Try.prog W = .ok (.slice (some ⟨W.heap.size, 0, none⟩) n n) (W.alloc (.cells (madeCells #[.int .u32 0] n) 39)) := by
  obtain ⟨i0, hi, hz0, hz1, hz2⟩ := info_of u32_info
  have := run_makeSlice (P := Try.prog) W 40 39 i0 (.int .u32 0) Try.underlying40 hi hz0 .i64 .i64 (n : Int) (n : Int) (by omega) (Int.le_refl _) (by rw [hz1]; simp; omega) (by rw [hz2]; omega) (by omega)
  have hz : (Value.int .u32 0).cells = #[.int .u32 0] := rfl
  rw [hz1, hz] at this
  simpa using this
theorem row_made (n : Nat) (hn : n ≤ 1048576) (W : World) : (W.alloc (.cells (madeCells #[.int .u32 0] n) 39)).ownsRow W.heap.size 39 1 (.slice (some ⟨W.heap.size, 0, none⟩) n n) n (CU (List.replicate n 0)) := by
  refine ⟨by rw [CU_len]; simp, .inr ⟨W.heap.size, n, _, rfl, Nat.le_refl _, heap_alloc_new W _, Nat.le_refl _, by unfold maxLen; omega, ?_, ?_⟩⟩
  · rw [← Array.length_toList, madeU, CU_len]; simp
  · rw [madeU, List.take_of_length_le (by rw [CU_len]; simp)]
structure NwRel (n : Nat) (l : List MA) (w : World) (v4 v : Value) (wr : World) : Prop where
  ex : ∃ k : Nat, k ≤ n ∧ v = .int .i64 (k : Int) ∧ v4 = .int .i64 (sumW (l.take k)) ∧ l.all fitsB = (l.drop k).all fitsB ∧ (l.take k).all fitsB = true ∧ Below w.heap.size w wr
structure OvRel (n : Nat) (l : List MA) (w : World) (v : Value) (wr : World) : Prop where
  ex : ∃ k : Nat, k ≤ n ∧ v = .int .i64 (k : Int) ∧ ovL [] l = ovL (l.take k) (l.drop k) ∧ Below w.heap.size w wr
def NewPost (l : List MA) (w : World) (e : Ending) (w' : World) : Prop :=
  (newErr l ≠ 0 → e = .returned (.tuple #[.pointer none, .int .i64 (newErr l)])) ∧ (newErr l = 0 → ∃ p rb, e = .returned (.tuple #[.pointer (some ⟨p, 0, none⟩), .int .i64 0]) ∧ SP w.heap.size w'.heap.size w' p rb l (zeros l)) ∧ Below w.heap.size w w'
theorem NewPost.err {l : List MA} {w w' : World} {z : Int} (h : newErr l = z) (hz : z ≠ 0) (hb : Below w.heap.size w w') : NewPost l w (.returned (.tuple #[.pointer none, .int .i64 z])) w' :=
  ⟨fun _ => by rw [h], fun h0 => absurd (h.symm.trans h0) hz, hb⟩
theorem NewPost.ok {l : List MA} {w w' : World} {p rb : Nat} (h : newErr l = 0) (hs : SP w.heap.size w'.heap.size w' p rb l (zeros l)) (hb : Below w.heap.size w w') : NewPost l w (.returned (.tuple #[.pointer (some ⟨p, 0, none⟩), .int .i64 0])) w' :=
  ⟨fun h0 => absurd h h0, fun _ => ⟨p, rb, rfl, hs⟩, hb⟩
theorem sp_new {B n m : Nat} {l : List MA} {W3 : World} {p rb : Nat} {va : Value} (hm : l.length = m) (hn : n = (sumW l).toNat) (hB : B ≤ p) (h1 : W3.heap[p]? = some (.cells #[va, .slice (some ⟨rb, 0, none⟩) n n] 71 (0, 0))) (h2 : W3.ownsRow B 57 5 va m (CA l)) (h3 : ∀ k, va.ownBlock = some k → k ≠ rb)
    (h4 : W3.ownsRow B 39 1 (.slice (some ⟨rb, 0, none⟩) n n) n (CU (List.replicate n 0))) (hne : p ≠ rb) : SP B W3.heap.size W3 p rb l (zeros l) := by
  subst hm
  have hl : (zeros l).length = n := by simp [zeros, hn]
  have hz : zeros l = List.replicate n 0 := by unfold zeros; rw [hn]
  refine ⟨Nat.le_refl _, ⟨hB, ?_⟩, h4.lt rb rfl, hne, va, n, ?_, h2, fun k hk => ⟨h3 k hk, (h2.lt k hk).2⟩, ?_⟩
  · exact (Array.getElem?_eq_some_iff.1 h1).1
  · rw [hl]; exact h1
  · rw [hl, hz]; exact h4
set_option maxRecDepth 100000 in
set_option maxHeartbeats 8000000 in
theorem new_any (g : Nat) (A : Option Addr) (n c : Nat) (l : List MA) (w : World) (h : St g w 5 (.slice A n c) n (CA l)) (hn : l.length = n) (hc : n ≤ c) (hi : ∀ x ∈ l, I64 x.frm ∧ I64 x.wds) (hm : n ≤ 64) :
    Calls Try.prog 10 #[.slice A n c] w (NewPost l w) := by
  have HN := Lib.hid hn
  have H := Lib.hid h
  have HC := Lib.hid hc
  have HI := Lib.hid hi
  obtain ⟨z, hz⟩ : ∃ z, newErr l = z := ⟨_, rfl⟩
  have HZ := Lib.hid hz
  unfold newErr at hz
  rw [hn] at hz
  clear h hn hi
  by_cases h16 : 16 < n
  · rw [if_pos h16] at hz
    subst hz
    have h16' : (16 : Int) < (n : Int) := by omega
    go_enter Try.func10, Try.ntmps10
    go_wp2_with fail
    go_ret2
    exact NewPost.err HZ.out (by decide) (Below.refl _ _)
  rw [if_neg h16] at hz
  have h16' : ¬ (16 : Int) < (n : Int) := by omega
  have HM : Hid (n ≤ 16) := by unfold Hid; omega
  have HE := Lib.hid hz
  clear hz h16 hc
  go_enter Try.func10, Try.ntmps10
  go_wp2_with fail
  go_loopw [4, 14] (fun v4 v wr => NwRel n l w v4 v wr) (fun _ v => fun _ => n - (intOf v).toNat)
  case atStart => exact ⟨⟨0, Nat.zero_le _, rfl, rfl, by simp, by simp, Below.refl _ _⟩⟩
  case round =>
    obtain ⟨⟨k, hk, rfl, rfl, hall, hpre, hb⟩⟩ := hrel
    have HK := Lib.hid hk
    have HA := Lib.hid hall
    have HP := Lib.hid hpre
    have HB := Lib.hid hb
    clear hk hall hpre hb
    by_cases hlt : k < n
    · have hkI : (k : Int) < (n : Int) := by omega
      have HX : Hid (k < n) := hlt
      obtain ⟨_, b, off, rfl, hbl, hg, hc⟩ := H.out.at_ hlt
      have hxs : l[k]? = some (l[k]'(by have := HN.out; omega)) := List.getElem?_eq_getElem _
      obtain ⟨x, hx⟩ : ∃ x, l[k]'(by have := HN.out; omega) = x := ⟨_, rfl⟩
      rw [hx] at hxs
      have HXS := Lib.hid hxs
      have CX := Lib.hid fun W : World => fits_any x W (HI.out x (List.mem_of_getElem? hxs)).1
      have hca := CA_at hxs
      obtain ⟨xf, xw, xx, xr, xk⟩ := x
      unfold MA.val at CX
      dsimp only at CX
      have HS : Hid (0 ≤ sumW (l.take k) ∧ sumW (l.take k) ≤ 1048576) := by
        have h1 := ga_of HP.out
        have h2 := sumW_le h1
        have h3 := sumW_nonneg h1
        have h4 := HM.out
        rw [List.length_take] at h2
        exact ⟨h3, by omega⟩
      have HSN := Lib.hid (sumW_snoc hxs)
      have HAD := Lib.hid (all_drop hxs HA.out)
      have HTS := Lib.hid (take_snoc hxs)
      have d0 : wr.cell? ⟨b, off + k * 5, none⟩ = some (.int .i64 xf) := by have := hc _ _ (hca 0 _ rfl); exact cell_later HB.out (by simpa [Nat.add_assoc] using this)
      have d1 : wr.cell? ⟨b, off + k * 5 + 1, none⟩ = some (.int .i64 xw) := by have := hc _ _ (hca 1 _ rfl); exact cell_later HB.out (by simpa [Nat.add_assoc] using this)
      have d2 : wr.cell? ⟨b, off + k * 5 + 2, none⟩ = some (.bool xx) := by have := hc _ _ (hca 2 _ rfl); exact cell_later HB.out (by simpa [Nat.add_assoc] using this)
      have d3 : wr.cell? ⟨b, off + k * 5 + 3, none⟩ = some (.bool xr) := by have := hc _ _ (hca 3 _ rfl); exact cell_later HB.out (by simpa [Nat.add_assoc] using this)
      have d4 : wr.cell? ⟨b, off + k * 5 + 4, none⟩ = some (.bool xk) := by have := hc _ _ (hca 4 _ rfl); exact cell_later HB.out (by simpa [Nat.add_assoc] using this)
      have dx : (wr.alloc (.cells #[.int .i64 xf, .int .i64 xw, .bool xx, .bool xr, .bool xk] 57)).cell? ⟨wr.heap.size, 1, none⟩ = some (.int .i64 xw) := by simp
      obtain ⟨t, ht⟩ : ∃ t, fitsB ⟨xf, xw, xx, xr, xk⟩ = t := ⟨_, rfl⟩
      rw [ht] at CX HAD
      have HT := Lib.hid ht
      obtain ⟨s, hs⟩ : ∃ s, sumW (l.take k) = s := ⟨_, rfl⟩
      rw [hs] at HS HSN
      simp only [hs]
      clear hc hca hx hlt hbl hg hxs ht hs
      go_wp2_with fail
      refine (CX.out _).mono ?_
      rintro e W1 ⟨rfl, b1⟩
      have HB1 : Hid (Below w.heap.size w W1) := (HB.out.alloc HB.out.size _).trans (b1.mono (by have := HB.out.size; simp; omega))
      have dy := cell_later b1 dx
      clear b1 CX d0 d1 d2 d3 d4 dx
      cases t with
      | false =>
        have HF : Hid (newErr l = 2) := by
          unfold Hid; rw [HZ.out, ← HE.out, if_pos (by rw [HAD.out]; rfl)]
        go_wp2_with fail
        go_ret2
        exact NewPost.err HF.out (by decide) HB1.out
      | true =>
        have hfit := fits_iff.1 HT.out
        dsimp only at hfit
        have hw1 : IntKind.i64.wrap (s + xw) = s + xw := wrap_ok (by have := HS.out; omega) (by have := HS.out; omega)
        clear hfit
        go_wp2_with fail
        go_roundw
        case rel =>
          have Q : NwRel n l w (.int .i64 (s + xw)) (.int .i64 ((k : Int) + 1)) W1 := ⟨⟨k + 1, HX.out, by go_num, by rw [HSN.out], by rw [HAD.out]; simp, by rw [HTS.out, List.all_append, HP.out]; simp [HT.out], HB1.out⟩⟩
          first | exact Q | ((repeat apply Exists.intro); exact ⟨Q, rfl⟩)
        case measure => have := HX.out; simp [intOf]; omega
    · have hkn : k = n := by have := HK.out; omega
      have HAL : Hid (l.all fitsB = true) := by
        unfold Hid
        rw [HA.out, List.drop_of_length_le (by have := HN.out; omega)]; rfl
      have HTK : l.take k = l := List.take_of_length_le (by have := HN.out; omega)
      rw [HTK]
      have HS : Hid (0 ≤ sumW l ∧ sumW l ≤ 1048576) := by
        have h1 := ga_of HAL.out
        have h2 := sumW_le h1
        have h3 := sumW_nonneg h1
        have h4 := HM.out
        have h5 := HN.out
        exact ⟨h3, by omega⟩
      have HE1 : Hid ((if 4096 < sumW l then (8 : Int) else if ovL [] l = true then 22 else 0) = z) := by
        unfold Hid; rw [← HE.out]; rw [if_neg (show ¬ l.all fitsB = false by rw [HAL.out]; simp)]
      have HWA : Hid (WrA l) := fun x hx => by
        have := ga_of HAL.out x hx
        exact wrap_ok (by omega) (by omega)
      obtain ⟨s, hs⟩ : ∃ s, sumW l = s := ⟨_, rfl⟩
      have HSM := Lib.hid hs
      rw [hs] at HS HE1
      simp only [hs]
      clear hlt HTK hs
      subst hkn
      by_cases hbig : 4096 < s
      · have HF : Hid (newErr l = 8) := by
          unfold Hid; rw [HZ.out, ← HE1.out, if_pos hbig]
        go_wp2_with fail
        go_ret2
        exact NewPost.err HF.out (by decide) HB.out
      have HE2 : Hid ((if ovL [] l = true then (22 : Int) else 0) = z) := by
        unfold Hid; rw [← HE1.out, if_neg hbig]
      obtain ⟨sn, hsn⟩ : ∃ sn : Nat, s = (sn : Int) := ⟨s.toNat, by have := HS.out; omega⟩
      subst hsn
      have hsn1 : sn ≤ 1048576 := by have := HS.out; omega
      have HSN : Hid (sn = (sumW l).toNat) := by unfold Hid; rw [HSM.out]; omega
      have HMK := Lib.hid (make_u32 sn hsn1)
      have HRM := Lib.hid (row_made sn hsn1)
      clear hsn1
      go_wp2_with fail
      obtain ⟨wo, hwo⟩ : ∃ wo, wo = wr := ⟨_, rfl⟩
      subst hwo
      go_loopw [30] (fun v wr => OvRel k l w v wr) (fun v => fun _ => k - (intOf v).toNat)
      case atStart => exact ⟨⟨0, Nat.zero_le _, rfl, by simp, HB.out⟩⟩
      case round =>
        clear HB
        obtain ⟨⟨i, hi, rfl, hov, hb⟩⟩ := hrel
        have HK2 := Lib.hid hi
        have HO := Lib.hid hov
        have HB := Lib.hid hb
        clear hi hov hb
        by_cases hlt : i < k
        · have hkI : (i : Int) < (k : Int) := by omega
          have HX : Hid (i < k) := hlt
          obtain ⟨_, b, off, rfl, hbl, hg, hc⟩ := H.out.at_ hlt
          have hxs : l[i]? = some (l[i]'(by have := HN.out; omega)) := List.getElem?_eq_getElem _
          obtain ⟨x, hx⟩ : ∃ x, l[i]'(by have := HN.out; omega) = x := ⟨_, rfl⟩
          rw [hx] at hxs
          have HXS := Lib.hid hxs
          have hca := CA_at hxs
          have CC := Lib.hid fun (W : World) (hb : Below w.heap.size w W) => contains_any g x (.slice (some ⟨b, off, none⟩) i c) (l.take i) W (by
            have h1 := (H.out.cut5 (Nat.le_of_lt HX.out)).below hb
            have h2 : (l.take i).length = i := by rw [List.length_take]; have := HN.out; have := HX.out; omega
            rw [h2]; exact h1) (HWA.out x (List.mem_of_getElem? hxs)) (fun y hy => HWA.out y (List.mem_of_mem_take hy)) (by rw [List.length_take]; have := HM.out; have := HN.out; omega)
          have hst : Hid (ovL [] l = ((l.take i).any (ovB x) || ovL (l.take (i + 1)) (l.drop (i + 1)))) := by
            unfold Hid; rw [HO.out, drop_cons hxs, take_snoc hxs]; rfl
          obtain ⟨xf, xw, xx, xr, xk⟩ := x
          unfold MA.val at CC
          dsimp only at CC
          have hic : i ≤ c := by have := HC.out; have := HX.out; omega
          have d0 : wr.cell? ⟨b, off + i * 5, none⟩ = some (.int .i64 xf) := by have := hc _ _ (hca 0 _ rfl); exact cell_later HB.out (by simpa [Nat.add_assoc] using this)
          have d1 : wr.cell? ⟨b, off + i * 5 + 1, none⟩ = some (.int .i64 xw) := by have := hc _ _ (hca 1 _ rfl); exact cell_later HB.out (by simpa [Nat.add_assoc] using this)
          have d2 : wr.cell? ⟨b, off + i * 5 + 2, none⟩ = some (.bool xx) := by have := hc _ _ (hca 2 _ rfl); exact cell_later HB.out (by simpa [Nat.add_assoc] using this)
          have d3 : wr.cell? ⟨b, off + i * 5 + 3, none⟩ = some (.bool xr) := by have := hc _ _ (hca 3 _ rfl); exact cell_later HB.out (by simpa [Nat.add_assoc] using this)
          have d4 : wr.cell? ⟨b, off + i * 5 + 4, none⟩ = some (.bool xk) := by have := hc _ _ (hca 4 _ rfl); exact cell_later HB.out (by simpa [Nat.add_assoc] using this)
          obtain ⟨t, ht⟩ : ∃ t, (l.take i).any (ovB ⟨xf, xw, xx, xr, xk⟩) = t := ⟨_, rfl⟩
          rw [ht] at CC hst
          have HB0 : Hid (Below w.heap.size w (wr.alloc (.cells #[.int .i64 xf, .int .i64 xw, .bool xx, .bool xr, .bool xk] 57))) := HB.out.alloc HB.out.size _
          clear hc hca hx hlt hbl hg hxs ht
          go_wp2_with fail
          have x0 : (wr.alloc (.cells #[.int .i64 xf, .int .i64 xw, .bool xx, .bool xr, .bool xk] 57)).cell? ⟨wr.heap.size, 0, none⟩ = some (.int .i64 xf) := by simp
          have x1 : (wr.alloc (.cells #[.int .i64 xf, .int .i64 xw, .bool xx, .bool xr, .bool xk] 57)).cell? ⟨wr.heap.size, 1, none⟩ = some (.int .i64 xw) := by simp
          have x2 : (wr.alloc (.cells #[.int .i64 xf, .int .i64 xw, .bool xx, .bool xr, .bool xk] 57)).cell? ⟨wr.heap.size, 2, none⟩ = some (.bool xx) := by simp
          have x3 : (wr.alloc (.cells #[.int .i64 xf, .int .i64 xw, .bool xx, .bool xr, .bool xk] 57)).cell? ⟨wr.heap.size, 3, none⟩ = some (.bool xr) := by simp
          have x4 : (wr.alloc (.cells #[.int .i64 xf, .int .i64 xw, .bool xx, .bool xr, .bool xk] 57)).cell? ⟨wr.heap.size, 4, none⟩ = some (.bool xk) := by simp
          refine wp_region_held_drew (S := (fun w' => Below w.heap.size w w' ∧ w'.cell? ⟨wr.heap.size, 0, none⟩ = some (.int .i64 xf) ∧ w'.cell? ⟨wr.heap.size, 1, none⟩ = some (.int .i64 xw) ∧ w'.cell? ⟨wr.heap.size, 2, none⟩ = some (.bool xx) ∧ w'.cell? ⟨wr.heap.size, 3, none⟩ = some (.bool xr) ∧ w'.cell? ⟨wr.heap.size, 4, none⟩ = some (.bool xk))) (by kernel_rfl) ?_ (fun hHeld => ?_)
          · exact ⟨below_drewN HB0.out 1, x0, x1, x2, x3, x4⟩
          refine takeD (i := 0) (d := some 35) (v := ?_) _ rfl rfl (by kernel_rfl) (by kernel_rfl) (by kernel_rfl) (fun _ _ _ h => h) (by rfl) ?_ (by assumption) ?_
          rotate_left
          · (intro w hSw; (try dsimp only at hSw); go_simp) <;> with_reducible rfl
          try simp only [Act.put, List.setIfInBounds_toArray, List.set_cons_zero, List.set_cons_succ]
          refine takeD (i := 1) (d := some 36) (v := ?_) _ rfl rfl (by kernel_rfl) (by kernel_rfl) (by kernel_rfl) (fun _ _ _ h => h) (by rfl) ?_ (by assumption) ?_
          rotate_left
          · (intro w hSw; (try dsimp only at hSw); go_simp) <;> with_reducible rfl
          try simp only [Act.put, List.setIfInBounds_toArray, List.set_cons_zero, List.set_cons_succ]
          refine takeD (i := 2) (d := some 37) (v := ?_) _ rfl rfl (by kernel_rfl) (by kernel_rfl) (by kernel_rfl) (fun _ _ _ h => h) (by rfl) ?_ (by assumption) ?_
          rotate_left
          · (intro w hSw; (try dsimp only at hSw); go_simp) <;> with_reducible rfl
          try simp only [Act.put, List.setIfInBounds_toArray, List.set_cons_zero, List.set_cons_succ]
          refine takeD (i := 3) (d := some 38) (v := ?_) _ rfl rfl (by kernel_rfl) (by kernel_rfl) (by kernel_rfl) (fun _ _ _ h => h) (by rfl) ?_ (by assumption) ?_
          rotate_left
          · (intro w hSw; (try dsimp only at hSw); go_simp) <;> with_reducible rfl
          try simp only [Act.put, List.setIfInBounds_toArray, List.set_cons_zero, List.set_cons_succ]
          refine takeD (i := 4) (d := some 39) (v := ?_) _ rfl rfl (by kernel_rfl) (by kernel_rfl) (by kernel_rfl) (fun _ _ _ h => h) (by rfl) ?_ (by assumption) ?_
          rotate_left
          · (intro w hSw; (try dsimp only at hSw); go_simp) <;> with_reducible rfl
          try simp only [Act.put, List.setIfInBounds_toArray, List.set_cons_zero, List.set_cons_succ]
          refine wpAnyH_ready (rs := [5]) (by kernel_rfl) (by simp) ?_
          refine AllReadyH.cons rfl (fun K hK => ?_) AllReadyH.nil
          (go_simp; go_at_call 30; refine (CC.out _ hHeld.1).mono ?_; rintro e wt ⟨rfl, hbt⟩; try go_wp2_with fail)
          refine hK.out _ _ ?_ (fun hHeld => ?_)
          · exact ⟨hHeld.1.trans (hbt.mono hHeld.1.size), cell_later hbt hHeld.2.1, cell_later hbt hHeld.2.2.1, cell_later hbt hHeld.2.2.2.1, cell_later hbt hHeld.2.2.2.2.1, cell_later hbt hHeld.2.2.2.2.2⟩
          clear hK K
          try simp only [Act.put, List.setIfInBounds_toArray, List.set_cons_zero, List.set_cons_succ]
          refine wpAnyH_done (by kernel_rfl) ?_ _
          have HB1 := Lib.hid hHeld.1
          clear hHeld CC x0 x1 x2 x3 x4 d0 d1 d2 d3 d4
          cases t with
          | true =>
            have HF : Hid (newErr l = 22) := by
              unfold Hid; rw [HZ.out, ← HE2.out, if_pos (by rw [hst.out]; rfl)]
            go_wp2_with fail
            go_ret2
            exact NewPost.err HF.out (by decide) HB1.out
          | false =>
            go_wp2_with fail
            go_roundw
            case rel =>
              have Q : OvRel k l w (.int .i64 ((i : Int) + 1)) _ := ⟨⟨i + 1, HX.out, by go_num, by rw [hst.out]; simp, HB1.out⟩⟩
              first | exact Q | ((repeat apply Exists.intro); exact ⟨Q, rfl⟩)
            case measure => have := HX.out; simp [intOf]; omega
        · have hkn : i = k := by have := HK2.out; omega
          have HF : Hid (newErr l = 0) := by
            unfold Hid
            rw [HZ.out, ← HE2.out, if_neg]
            rw [HO.out, List.drop_of_length_le (by have := HN.out; omega)]
            simp [ovL]
          have CL := Lib.hid fun (W : World) (hb : Below w.heap.size w W) => aclone_any g (.slice A k c) k (CA l) W (H.out.below hb) (CA_one l) (by have := HM.out; omega)
          subst hkn
          clear hlt
          go_wp2_with fail
          refine wp_region_held_drew (S := fun w' => Below w.heap.size w w') (by kernel_rfl) ?_ (fun hHeld => ?_)
          · exact below_drewN HB.out 1
          refine takeD (i := 0) (d := some 42) (v := ?_) _ rfl rfl (by kernel_rfl) (by kernel_rfl) (by kernel_rfl) (fun _ _ _ h => h) (by rfl) ?_ (by assumption) ?_
          rotate_left
          · (intro w hSw; (try dsimp only at hSw); go_simp) <;> with_reducible rfl
          try simp only [Act.put, List.setIfInBounds_toArray, List.set_cons_zero, List.set_cons_succ]
          refine takeD (i := 2) (d := some 44) (v := ?_) _ rfl rfl (by kernel_rfl) (by kernel_rfl) (by kernel_rfl) (fun _ _ _ h => h) (by rfl) ?_ (by assumption) ?_
          rotate_left
          · (intro w hSw; (try dsimp only at hSw); go_simp) <;> with_reducible rfl
          try simp only [Act.put, List.setIfInBounds_toArray, List.set_cons_zero, List.set_cons_succ]
          refine wpAnyH_ready (rs := [1, 3]) (by kernel_rfl) (by simp) ?_
          refine AllReadyH.cons rfl (fun K hK => ?_) (AllReadyH.cons rfl (fun K hK => ?_) AllReadyH.nil)
          · (go_simp; go_at_call 32; refine (CL.out _ hHeld).mono ?_; rintro e wt ⟨⟨r, rfl, hown⟩, hbt⟩; try go_wp2_with fail)
            obtain ⟨A', c', rfl⟩ := slice_form hown
            have HW := Lib.hid hHeld.size
            have HOW := Lib.hid (own_base hown hHeld.size)
            refine hK.out _ _ ?_ (fun hHeld => ?_)
            · exact hHeld.trans (hbt.mono hHeld.size)
            clear hK K
            try simp only [Act.put, List.setIfInBounds_toArray, List.set_cons_zero, List.set_cons_succ]
            have HB1 := Lib.hid hHeld
            refine wpAnyH_ready (rs := [3]) (by kernel_rfl) (by simp) ?_
            refine AllReadyH.cons rfl (fun K hK => ?_) AllReadyH.nil
            go_simp
            try rw [HMK.out]
            try go_simp
            refine hK.out _ _ ?_ (fun hHeld => ?_)
            · exact hHeld.alloc hHeld.size _
            clear hK K
            try simp only [Act.put, List.setIfInBounds_toArray, List.set_cons_zero, List.set_cons_succ]
            refine takeD (i := 4) (d := some 46) (v := ?_) _ rfl rfl (by kernel_rfl) (by kernel_rfl) (by kernel_rfl) (fun _ _ _ h => h) (by rfl) ?_ (by assumption) ?_
            rotate_left
            · (intro w hSw; (try dsimp only at hSw); go_simp) <;> with_reducible rfl
            try simp only [Act.put, List.setIfInBounds_toArray, List.set_cons_zero, List.set_cons_succ]
            refine wpAnyH_ready (rs := [5]) (by kernel_rfl) (by simp) ?_
            refine AllReadyH.cons rfl (fun K hK => ?_) AllReadyH.nil
            go_simp
            refine hK.out _ _ ?_ (fun hHeld => ?_)
            · exact hHeld.alloc hHeld.size _
            clear hK K
            try simp only [Act.put, List.setIfInBounds_toArray, List.set_cons_zero, List.set_cons_succ]
            refine takeD (i := 6) (d := some 2) (v := ?_) _ rfl rfl (by kernel_rfl) (by kernel_rfl) (by kernel_rfl) (fun _ _ _ h => h) (by rfl) ?_ (by assumption) ?_
            rotate_left
            · (intro w hSw; (try dsimp only at hSw); go_simp) <;> with_reducible rfl
            try simp only [Act.put, List.setIfInBounds_toArray, List.set_cons_zero, List.set_cons_succ]
            refine takeD (i := 7) (d := some 3) (v := ?_) _ rfl rfl (by kernel_rfl) (by kernel_rfl) (by kernel_rfl) (fun _ _ _ h => h) (by rfl) ?_ (by assumption) ?_
            rotate_left
            · (intro w hSw; (try dsimp only at hSw); go_simp) <;> with_reducible rfl
            try simp only [Act.put, List.setIfInBounds_toArray, List.set_cons_zero, List.set_cons_succ]
            refine wpAnyH_done (by kernel_rfl) ?_ _
            have HB2 := Lib.hid hHeld
            clear hHeld
            go_wp2_with fail
            go_ret2
            have bz : Below wt.heap.size wt ((wt.alloc (.cells (madeCells #[.int .u32 0] sn) 39)).alloc (.cells #[.slice A' i c', .slice (some ⟨wt.heap.size, 0, none⟩) sn sn] 71)) := ((Below.refl _ _).alloc (Nat.le_refl _) _).alloc (by simp) _
            refine NewPost.ok HF.out (sp_new (p := wt.heap.size + 1) (rb := wt.heap.size) (va := .slice A' i c') HN.out HSN.out (by have := HB1.out.size; omega) ?_ (own_below HOW.out bz) (fun k hk => by have := (HOW.out.lt k hk).2; omega) (own_below (own_base (HRM.out wt) HB1.out.size) ((Below.refl _ _).alloc (Nat.le_refl _) _)) (by omega)) HB2.out
            have := heap_alloc_new (wt.alloc (.cells (madeCells #[.int .u32 0] sn) 39)) (.cells #[.slice A' i c', .slice (some ⟨wt.heap.size, 0, none⟩) sn sn] 71)
            simpa using this
          · go_simp
            try rw [HMK.out]
            try go_simp
            refine hK.out _ _ ?_ (fun hHeld => ?_)
            · exact hHeld.alloc hHeld.size _
            clear hK K
            try simp only [Act.put, List.setIfInBounds_toArray, List.set_cons_zero, List.set_cons_succ]
            have HB1 := Lib.hid hHeld
            refine wpAnyH_ready (rs := [1]) (by kernel_rfl) (by simp) ?_
            refine AllReadyH.cons rfl (fun K hK => ?_) AllReadyH.nil
            (go_simp; go_at_call 32; refine (CL.out _ hHeld).mono ?_; rintro e wt ⟨⟨r, rfl, hown⟩, hbt⟩; try go_wp2_with fail)
            obtain ⟨A', c', rfl⟩ := slice_form hown
            have HOW := Lib.hid hown
            refine hK.out _ _ ?_ (fun hHeld => ?_)
            · exact hHeld.trans (hbt.mono hHeld.size)
            have HBT := Lib.hid hbt
            clear hK K hbt hown
            try simp only [Act.put, List.setIfInBounds_toArray, List.set_cons_zero, List.set_cons_succ]
            refine takeD (i := 4) (d := some 46) (v := ?_) _ rfl rfl (by kernel_rfl) (by kernel_rfl) (by kernel_rfl) (fun _ _ _ h => h) (by rfl) ?_ (by assumption) ?_
            rotate_left
            · (intro w hSw; (try dsimp only at hSw); go_simp) <;> with_reducible rfl
            try simp only [Act.put, List.setIfInBounds_toArray, List.set_cons_zero, List.set_cons_succ]
            refine wpAnyH_ready (rs := [5]) (by kernel_rfl) (by simp) ?_
            refine AllReadyH.cons rfl (fun K hK => ?_) AllReadyH.nil
            go_simp
            refine hK.out _ _ ?_ (fun hHeld => ?_)
            · exact hHeld.alloc hHeld.size _
            clear hK K
            try simp only [Act.put, List.setIfInBounds_toArray, List.set_cons_zero, List.set_cons_succ]
            refine takeD (i := 6) (d := some 2) (v := ?_) _ rfl rfl (by kernel_rfl) (by kernel_rfl) (by kernel_rfl) (fun _ _ _ h => h) (by rfl) ?_ (by assumption) ?_
            rotate_left
            · (intro w hSw; (try dsimp only at hSw); go_simp) <;> with_reducible rfl
            try simp only [Act.put, List.setIfInBounds_toArray, List.set_cons_zero, List.set_cons_succ]
            refine takeD (i := 7) (d := some 3) (v := ?_) _ rfl rfl (by kernel_rfl) (by kernel_rfl) (by kernel_rfl) (fun _ _ _ h => h) (by rfl) ?_ (by assumption) ?_
            rotate_left
            · (intro w hSw; (try dsimp only at hSw); go_simp) <;> with_reducible rfl
            try simp only [Act.put, List.setIfInBounds_toArray, List.set_cons_zero, List.set_cons_succ]
            refine wpAnyH_done (by kernel_rfl) ?_ _
            have HB2 := Lib.hid hHeld
            clear hHeld
            go_wp2_with fail
            go_ret2
            have hz1 : (wr.alloc (.cells (madeCells #[.int .u32 0] sn) 39)).drew.heap.size = wr.heap.size + 1 := by simp
            have hz2 := HBT.out.size
            have hz3 := HB.out.size
            refine NewPost.ok HF.out (sp_new (p := wt.heap.size) (rb := wr.heap.size) (va := .slice A' i c') HN.out HSN.out (by omega) (heap_alloc_new _ _) (own_below (own_base HOW.out (by omega)) ((Below.refl _ _).alloc (Nat.le_refl _) _)) (fun k hk => by have := (HOW.out.lt k hk).1; omega) (own_below (own_below (w := (wr.alloc (.cells (madeCells #[.int .u32 0] sn) 39)).drew) (own_base (HRM.out wr) HB.out.size) HBT.out) ((Below.refl _ _).alloc (Nat.le_refl _) _)) (by omega)) HB2.out
end Go.Proofs.Ytliggejkpmlgfaa
