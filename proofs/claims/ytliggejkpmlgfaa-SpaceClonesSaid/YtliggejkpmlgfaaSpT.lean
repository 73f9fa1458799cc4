/-
  The document's own space: Fresh. Each statement bears its own conditions.
-/
import Derived.Test.YtliggejkpmlgfaaSpS
namespace Go.Proofs.Ytliggejkpmlgfaa
open Go.RowKit
set_option linter.unusedVariables false
set_option linter.unusedSimpArgs false
def InnerOf (w wr : World) (g1 : Option Nat) (va vl : Value) (l : List MA) (LL : List (List Int)) (vs : List Value) (M : List (List Int)) : Prop :=
  ∀ gg, (gg < w.heap.size + 2 ∨ g1 = some gg) → RS gg w va vl l LL → ∀ (j : Nat) u L, vs[j]? = some u → M[j]? = some L → St gg wr 1 u L.length (CU L)
theorem InnerOf.below {w wr wr' : World} {g1 : Option Nat} {va vl : Value} {l : List MA} {LL M : List (List Int)} {vs : List Value} (h : InnerOf w wr g1 va vl l LL vs M) (hb : Below wr.heap.size wr wr') : InnerOf w wr' g1 va vl l LL vs M :=
  fun gg hg hr j u L hu hL => (h gg hg hr j u L hu hL).below hb
theorem InnerOf.past {w wr wr' : World} {g1 : Option Nat} {q : Nat} {va vl : Value} {l : List MA} {LL M : List (List Int)} {vs : List Value} (h : InnerOf w wr g1 va vl l LL vs M) (hq : q < w.heap.size + 2 ∨ g1 = some q) (hr : RS q w va vl l LL) (hp : Past q wr wr') : InnerOf w wr' g1 va vl l LL vs M :=
  fun gg hg hr' j u L hu hL => (h gg hg hr' j u L hu hL).both (h q hq hr j u L hu hL) hp
theorem InnerOf.set {w wr : World} {g1 : Option Nat} {va vl : Value} {l : List MA} {LL M : List (List Int)} {vs : List Value} {k : Nat} {v : Value} {N : List Int} (h : InnerOf w wr g1 va vl l LL vs M) (hk : k < vs.length) (hk' : k < M.length) (hn : ∀ gg, (gg < w.heap.size + 2 ∨ g1 = some gg) → St gg wr 1 v N.length (CU N)) : InnerOf w wr g1 va vl l LL (vs.set k v) (M.set k N) :=
  fun gg hg hr j u L hu hL => by
    by_cases hj : k = j
    · subst hj
      rw [List.getElem?_set_self hk] at hu
      rw [List.getElem?_set_self hk'] at hL
      injection hu with hu
      injection hL with hL
      subst hu hL
      exact hn gg hg
    · rw [List.getElem?_set_ne hj] at hu hL
      exact h gg hg hr j u L hu hL
structure RFrRel (keep : Bool) (n : Nat) (l : List MA) (LL : List (List Int)) (va vl v1 : Value) (g1 : Option Nat) (b0 : Nat) (w : World) (v : Value) (wr : World) : Prop where
  ex : ∃ (k : Nat) (vs : List Value), k ≤ n ∧ v = .int .i64 (k : Int) ∧ Below w.heap.size w wr ∧ wr.heap[b0]? = some (.cells #[va, v1] 31 (0, 0)) ∧ wr.heap[b0 + 1]? = some (.cells #[.slice none 0 0, .slice none 0 0] 31 (0, 0)) ∧
    wr.ownsRow (b0 + 2) 40 1 v1 n vs ∧ (∀ u ∈ vs, u.oneCell' = true) ∧ InnerOf w wr g1 va vl l LL vs (frS keep l LL k)
set_option maxRecDepth 100000 in
set_option maxHeartbeats 8000000 in
theorem rfresh_any (g : Nat) (va vl : Value) (l : List MA) (LL : List (List Int)) (keep : Bool) (w : World) (h : RS g w va vl l LL) (hs : Sh l LL) :
    Calls Try.prog 35 #[.agg #[va, vl], .bool keep] w fun e w' => (∃ vl', e = .returned (.agg #[va, vl']) ∧ Turns w w' va vl vl' l LL (frS keep l LL l.length)) ∧ Below w.heap.size w w' := by
  obtain ⟨i0, hinf, hz0, hz1, hz2⟩ := info_of row_info
  have HH := Lib.hid h
  have HS := Lib.hid hs
  obtain ⟨A, c, A', c', rfl, rfl⟩ := h.form
  obtain ⟨vs, h1, h2, h3⟩ := h.s.ex
  have hnl : LL.length = l.length := hs.len
  have HF : Hid (l.length ≤ 16) := hs.few
  obtain ⟨n, hn⟩ : ∃ n, l.length = n := ⟨_, rfl⟩
  rw [hnl, hn] at h1
  have hha := h.a
  rw [hn] at hha HF
  rw [hnl, hn]
  have HN := Lib.hid hn
  have HA := Lib.hid hha
  have HVL : Hid (vs.length = n) := by have := h1.len; unfold Hid; omega
  have RD := Lib.hid h1.reads.2
  have HV1 := Lib.hid h1
  have H3 := Lib.hid h3
  have hn64 : n ≤ 64 := by have := HF.out; omega
  have HRS : Hid (RS g w (.slice A n c) (.slice A' n c') l LL) := by unfold Hid; have := HH.out; rw [hn, hnl, hn] at this; exact this
  clear h h1 h2 h3 hs hnl hha HH
  have HN2 := HN
  obtain ⟨W0, hW0⟩ : ∃ W0, (w.alloc (.cells #[.slice A n c, .slice A' n c'] 31)).alloc (.cells #[.slice none 0 0, .slice none 0 0] 31) = W0 := ⟨_, rfl⟩
  have HS0 : Hid (W0.heap.size = w.heap.size + 2) := by rw [← hW0]; unfold Hid; simp
  have B0 : Hid (Below w.heap.size w W0) := by rw [← hW0]; exact ((Below.refl _ _).alloc (Nat.le_refl _) _).alloc (by simp) _
  have HX0 : Hid (W0.heap[w.heap.size]? = some (.cells #[.slice A n c, .slice A' n c'] 31 (0, 0))) := by
    rw [← hW0]; exact (((Below.refl _ _).alloc (Nat.le_refl _) _).block _ (by simp)).trans (heap_alloc_new _ _)
  have HY0 : Hid (W0.heap[w.heap.size + 1]? = some (.cells #[.slice none 0 0, .slice none 0 0] 31 (0, 0))) := by
    rw [← hW0]; have := heap_alloc_new (w.alloc (.cells #[.slice A n c, .slice A' n c'] 31)) (.cells #[.slice none 0 0, .slice none 0 0] 31); unfold Hid; simpa using this
  have x1 := (row_cell HX0.out 1).1
  simp at x1
  have x1e : (W0.alloc (.cells #[] 40)).cell? ⟨w.heap.size, 1, none⟩ = some (.slice A' n c') := cell_al _ x1
  clear hn
  go_enter Try.func35, Try.ntmps35
  go_wp2_with (at_builtin; refine wpList_append_any _ rfl (.tmp 6) (.tmp 8) _ rfl W0.heap.size 40 i0 (.slice none 0 0) 1 24 Try.underlying29 hinf hz0 hz1 hz2 rfl (by decide) (.slice (some ⟨W0.heap.size, 0, none⟩) 0 0) 0 [] rfl (row_empty 40 W0) W0.heap.size A' n c' vs rfl ((RD.out.below (B0.out.alloc B0.out.size _)).more B0.out.size) H3.out ?c2 ?c3 ?c4 ?_)
  case c2 => have := HF.out; unfold maxLen; omega
  case c3 => have := HF.out; omega
  case c4 => simp
  intro v1 w2 hown hgr hbl
  have ho' : w2.ownsRow W0.heap.size 40 1 v1 n vs := by simpa using hown
  have B2 : Hid (Below W0.heap.size W0 w2) := ((Below.refl _ _).alloc (Nat.le_refl _) _).grown hgr (by simp) (fun q hq => by have h' : some W0.heap.size = some q := hq; injection h' with h'; omega)
  obtain ⟨A1, c1, rfl⟩ := slice_form ho'
  have HO2 := Lib.hid ho'
  have HX2 : Hid (w2.heap[w.heap.size]? = some (.cells #[.slice A n c, .slice A' n c'] 31 (0, 0))) := (B2.out.block _ (by have := HS0.out; omega)).trans HX0.out
  have HY2 : Hid (w2.heap[w.heap.size + 1]? = some (.cells #[.slice none 0 0, .slice none 0 0] 31 (0, 0))) := (B2.out.block _ (by have := HS0.out; omega)).trans HY0.out
  clear hown ho' hgr hbl x1 x1e hW0
  have k1 := (row_cell HX2.out 1).1
  have z1 := (row_cell HX2.out 1).2
  simp at k1
  go_wp2_with fail
  obtain ⟨W3, hW3⟩ : ∃ W3, w2.setCell ⟨w.heap.size, 1, none⟩ (.slice A1 n c1) = W3 := ⟨_, rfl⟩
  simp only [hW3]
  have HX3 : Hid (W3.heap[w.heap.size]? = some (.cells #[.slice A n c, .slice A1 n c1] 31 (0, 0))) := by rw [← hW3]; have := set_at HX2.out 1 (.slice A1 n c1); unfold Hid; simpa using this
  have HY3 : Hid (W3.heap[w.heap.size + 1]? = some (.cells #[.slice none 0 0, .slice none 0 0] 31 (0, 0))) := by rw [← hW3]; exact (set_far _ _ (by omega)).trans HY2.out
  have HO3 : Hid (W3.ownsRow (w.heap.size + 2) 40 1 (.slice A1 n c1) n vs) := by rw [← hW3]; exact ownsRow_setCell_below (own_base HO2.out (by have := HS0.out; omega)) (by simp) _
  have B3 : Hid (Below w.heap.size w W3) := by rw [← hW3]; exact (B0.out.trans (B2.out.mono B0.out.size)).setCell (p := ⟨w.heap.size, 1, none⟩) (Nat.le_refl _) _
  have HIN : Hid (InnerOf w W3 (Value.slice A1 n c1).ownBlock (.slice A n c) (.slice A' n c') l LL vs LL) := by
    intro gg _ hr j u L hu hL
    obtain ⟨vs', h1', h2', _⟩ := hr.s.ex
    rw [HS.out.len, HN.out] at h1'
    have hvv := st_uniq HV1.out h1'
    subst hvv
    exact (h2' j u L hu hL).below B3.out
  clear hW3 k1 z1
  go_wp2_with fail
  go_loopw [5] (fun v wr => RFrRel keep n l LL (.slice A n c) (.slice A' n c') (.slice A1 n c1) (Value.slice A1 n c1).ownBlock w.heap.size w v wr) (fun v => fun _ => n - (intOf v).toNat)
  case atStart => exact ⟨⟨0, vs, Nat.zero_le _, rfl, B3.out, HX3.out, HY3.out, HO3.out, H3.out, HIN.out⟩⟩
  case round =>
    clear HX3 HY3 HO3 B3 HIN
    obtain ⟨⟨k, us, hk, rfl, hb, hx, hy, hown, hone, hin⟩⟩ := hrel
    have HK := Lib.hid hk
    have HB := Lib.hid hb
    have HX := Lib.hid hx
    have HY := Lib.hid hy
    have HO := Lib.hid hown
    have H1 := Lib.hid hone
    have HI := Lib.hid hin
    clear hk hb hx hy hown hone hin
    have x0 := (row_cell HX.out 0).1
    have x1 := (row_cell HX.out 1).1
    simp at x0 x1
    have HX0' := Lib.hid x0
    have HX1' := Lib.hid x1
    by_cases hlt : k < n
    · have hkI : (k : Int) < (n : Int) := by omega
      have HLT : Hid (k < n) := hlt
      obtain ⟨g1, c1', hv1, hg1, hg1'⟩ := own_form HO.out (Nat.lt_of_le_of_lt (Nat.zero_le _) hlt)
      injection hv1 with e1 e2 e3
      subst e1 e3
      have HG1 : Hid (w.heap.size + 2 ≤ g1) := hg1
      obtain ⟨_, b, off, rfl, hbl, hg, hc⟩ := HA.out.at_ hlt
      have hxs : l[k]? = some (l[k]'(by have := HN.out; omega)) := List.getElem?_eq_getElem _
      obtain ⟨x, hx⟩ : ∃ x, l[k]'(by have := HN.out; omega) = x := ⟨_, rfl⟩
      rw [hx] at hxs
      have hgx := HS.out.good x (List.mem_of_getElem? hxs)
      have hca := CA_at hxs
      obtain ⟨L, hL, hLl, hfs⟩ := HS.out.freshAt (keep := keep) hxs
      have hsumk := sumW_snoc hxs
      have hsum1 := sumW_take HS.out.good (k + 1)
      have hsum2 := sumW_take HS.out.good k
      have hsum3 := HS.out.sum
      obtain ⟨xf, xw, xx, xr, xk⟩ := x
      dsimp only at hgx hLl hfs hsumk
      obtain ⟨xn, rfl⟩ : ∃ xn : Nat, xw = (xn : Int) := ⟨xw.toNat, by omega⟩
      have hLn : L.length = xn := by omega
      rw [hLn] at hfs
      have HFS := Lib.hid hfs
      have HXN : Hid (xn ≤ 1048576) := by unfold Hid; omega
      have HMK := Lib.hid (make_u32 xn HXN.out)
      have HRM := Lib.hid (row_made xn HXN.out)
      have d1 : wr.cell? ⟨b, off + k * 5 + 1, none⟩ = some (.int .i64 (xn : Int)) := by have := hc _ _ (hca 1 _ rfl); exact (HB.out.cell (p := ⟨b, off + k * 5 + 1, none⟩) hbl).trans (by simpa [Nat.add_assoc] using this)
      have d4 : wr.cell? ⟨b, off + k * 5 + 4, none⟩ = some (.bool xk) := by have := hc _ _ (hca 4 _ rfl); exact (HB.out.cell (p := ⟨b, off + k * 5 + 4, none⟩) hbl).trans (by simpa [Nat.add_assoc] using this)
      have HD1 := Lib.hid d1
      have HBL : Hid (b < w.heap.size) := hbl
      have HUL : Hid (k < us.length) := by have := HO.out.1; unfold Hid; omega
      have HML : Hid (k < (frS keep l LL k).length) := by have := (HS.out.fresh keep k).len; have := HN.out; unfold Hid; omega
      clear hc hca hx hlt hbl hg hxs hgx hL hLl hfs hsumk hsum1 hsum2 hsum3 hLn hg1 hg1'
      cases keep with
      | false =>
        have hnx : Hid (frS false l LL (k + 1) = (frS false l LL k).set k (List.replicate xn 0)) := by unfold Hid; rw [HFS.out, if_neg (by simp)]
        go_wp2_with fail
        refine wp_region_held_drew (S := (fun w' => w'.cell? ⟨w.heap.size, 0, none⟩ = some (.slice (some ⟨b, off, none⟩) n c) ∧ w'.cell? ⟨w.heap.size, 1, none⟩ = some (.slice (some ⟨g1, 0, none⟩) n c1) ∧ w'.cell? ⟨b, off + k * 5 + 1, none⟩ = some (.int .i64 (xn : Int)))) (by kernel_rfl) ?_ (fun hHeld => ?_)
        · exact ⟨HX0'.out, HX1'.out, HD1.out⟩
        refine takeD (i := 0) (d := some 29) (v := ?_) _ rfl rfl (by kernel_rfl) (by kernel_rfl) (by kernel_rfl) (fun _ _ _ h => h) (by rfl) ?_ (by assumption) ?_
        rotate_left
        · (intro w hSw; (try dsimp only at hSw); go_simp) <;> with_reducible rfl
        try simp only [Act.put, List.setIfInBounds_toArray, List.set_cons_zero, List.set_cons_succ]
        refine takeD (i := 1) (d := some 30) (v := ?_) _ rfl rfl (by kernel_rfl) (by kernel_rfl) (by kernel_rfl) (fun _ _ _ h => h) (by rfl) ?_ (by assumption) ?_
        rotate_left
        · (intro w hSw; (try dsimp only at hSw); go_simp) <;> with_reducible rfl
        try simp only [Act.put, List.setIfInBounds_toArray, List.set_cons_zero, List.set_cons_succ]
        refine takeD (i := 2) (d := some 31) (v := ?_) _ rfl rfl (by kernel_rfl) (by kernel_rfl) (by kernel_rfl) (fun _ _ _ h => h) (by rfl) ?_ (by assumption) ?_
        rotate_left
        · (intro w hSw; (try dsimp only at hSw); go_simp) <;> with_reducible rfl
        try simp only [Act.put, List.setIfInBounds_toArray, List.set_cons_zero, List.set_cons_succ]
        refine takeD (i := 3) (d := some 32) (v := ?_) _ rfl rfl (by kernel_rfl) (by kernel_rfl) (by kernel_rfl) (fun _ _ _ h => h) (by rfl) ?_ (by assumption) ?_
        rotate_left
        · (intro w hSw; (try dsimp only at hSw); go_simp) <;> with_reducible rfl
        try simp only [Act.put, List.setIfInBounds_toArray, List.set_cons_zero, List.set_cons_succ]
        refine takeD (i := 4) (d := some 33) (v := ?_) _ rfl rfl (by kernel_rfl) (by kernel_rfl) (by kernel_rfl) (fun _ _ _ h => h) (by rfl) ?_ (by assumption) ?_
        rotate_left
        · (intro w hSw; (try dsimp only at hSw); go_simp) <;> with_reducible rfl
        try simp only [Act.put, List.setIfInBounds_toArray, List.set_cons_zero, List.set_cons_succ]
        refine takeD (i := 5) (d := some 34) (v := ?_) _ rfl rfl (by kernel_rfl) (by kernel_rfl) (by kernel_rfl) (fun _ _ _ h => h) (by rfl) ?_ (by assumption) ?_
        rotate_left
        · (intro w hSw; (try dsimp only at hSw); go_simp) <;> with_reducible rfl
        try simp only [Act.put, List.setIfInBounds_toArray, List.set_cons_zero, List.set_cons_succ]
        refine takeD (i := 6) (d := some 35) (v := ?_) _ rfl rfl (by kernel_rfl) (by kernel_rfl) (by kernel_rfl) (fun _ _ _ h => h) (by rfl) ?_ (by assumption) ?_
        rotate_left
        · (intro w hSw; (try dsimp only at hSw); go_simp) <;> with_reducible rfl
        try simp only [Act.put, List.setIfInBounds_toArray, List.set_cons_zero, List.set_cons_succ]
        refine takeD (i := 7) (d := some 36) (v := ?_) _ rfl rfl (by kernel_rfl) (by kernel_rfl) (by kernel_rfl) (fun _ _ _ h => h) (by rfl) ?_ (by assumption) ?_
        rotate_left
        · (intro w hSw; (try dsimp only at hSw); go_simp) <;> with_reducible rfl
        try simp only [Act.put, List.setIfInBounds_toArray, List.set_cons_zero, List.set_cons_succ]
        refine takeD (i := 8) (d := some 37) (v := ?_) _ rfl rfl (by kernel_rfl) (by kernel_rfl) (by kernel_rfl) (fun _ _ _ h => h) (by rfl) ?_ (by assumption) ?_
        rotate_left
        · (intro w hSw; (try dsimp only at hSw); go_simp) <;> with_reducible rfl
        try simp only [Act.put, List.setIfInBounds_toArray, List.set_cons_zero, List.set_cons_succ]
        refine wpAnyH_ready (rs := [9]) (by kernel_rfl) (by simp) ?_
        refine AllReadyH.cons rfl (fun K hK => ?_) AllReadyH.nil
        go_simp
        try rw [HMK.out]
        try go_simp
        obtain ⟨W4, hW4⟩ : ∃ W4, (wr.alloc (.cells (madeCells #[.int .u32 0] xn) 39)).drew = W4 := ⟨_, rfl⟩
        simp only [hW4]
        have hv3 : (⟨wr.heap.size, 0, none⟩ : Addr) = ⟨wr.heap.size, 0, none⟩ := rfl
        have B4 : Hid (Below wr.heap.size wr W4) := by rw [← hW4]; exact below_drewN ((Below.refl _ _).alloc (Nat.le_refl _) _) 1
        have HN4 : Hid (W4.ownsRow wr.heap.size 39 1 (.slice (some ⟨wr.heap.size, 0, none⟩) xn xn) xn (CU (List.replicate xn 0))) := by rw [← hW4]; exact HRM.out wr
        have HO4 := Lib.hid (own_below HO.out B4.out)
        have HX4 := Lib.hid (heap_keep B4.out HX.out)
        have HY4 := Lib.hid (heap_keep B4.out HY.out)
        have HI4 := Lib.hid (HI.out.below B4.out)
        have HB4 : Hid (Below w.heap.size w W4) := HB.out.trans (B4.out.mono HB.out.size)
        refine hK.out _ _ ⟨cell_later B4.out HX0'.out, cell_later B4.out HX1'.out, cell_later B4.out HD1.out⟩ (fun hHeld => ?_)
        clear hK K hW4
        try simp only [Act.put, List.setIfInBounds_toArray, List.set_cons_zero, List.set_cons_succ]
        refine takeD (i := 10) (d := some 39) (v := ?_) _ rfl rfl (by kernel_rfl) (by kernel_rfl) (by kernel_rfl) (fun _ _ _ h => h) (by rfl) ?_ (by assumption) ?_
        rotate_left
        · (intro w hSw; (try dsimp only at hSw); go_simp) <;> with_reducible rfl
        try simp only [Act.put, List.setIfInBounds_toArray, List.set_cons_zero, List.set_cons_succ]
        obtain ⟨u0, hu0⟩ : ∃ u0, us[k]? = some u0 := ⟨_, List.getElem?_eq_getElem HUL.out⟩
        have y1 := (own_cell HO4.out hu0).1
        have y2 := (own_cell HO4.out hu0).2
        refine wpAnyH_ready (rs := [11]) (by kernel_rfl) (by simp) ?_
        refine AllReadyH.cons rfl (fun K hK => ?_) AllReadyH.nil
        go_simp
        refine hK.out _ _ ?_ (fun hHeld => ?_)
        · have hg := HG1.out
          have hb := HBL.out
          rw [World.cell?_setCell_far _ _ _ _ (by simp; omega), World.cell?_setCell_far _ _ _ _ (by simp; omega), World.cell?_setCell_far _ _ _ _ (by simp; omega)]
          exact hHeld
        clear hK K y1 y2 hu0 hHeld
        try simp only [Act.put, List.setIfInBounds_toArray, List.set_cons_zero, List.set_cons_succ]
        refine wpAnyH_done (by kernel_rfl) ?_ _
        obtain ⟨W5, hW5⟩ : ∃ W5, W4.setCell ⟨g1, k, none⟩ (.slice (some ⟨wr.heap.size, 0, none⟩) xn xn) = W5 := ⟨_, rfl⟩
        simp only [hW5] at hHeld ⊢
        have HGW : Hid (g1 < wr.heap.size) := (HO.out.lt g1 rfl).2
        have HYW : Hid (w.heap.size + 2 ≤ wr.heap.size) := (Array.getElem?_eq_some_iff.1 HY.out).1
        have PV : Past g1 W4 W5 := by rw [← hW5]; exact (Past.refl _ _).setCell _ _
        have HO5 : Hid (W5.ownsRow (w.heap.size + 2) 40 1 (.slice (some ⟨g1, 0, none⟩) n c1) n (us.set k (.slice (some ⟨wr.heap.size, 0, none⟩) xn xn))) := by rw [← hW5]; exact own_put HO4.out _
        have HN5 : Hid (W5.ownsRow wr.heap.size 39 1 (.slice (some ⟨wr.heap.size, 0, none⟩) xn xn) xn (CU (List.replicate xn 0))) := by
          rw [← hW5]; exact own_same HN4.out (fun q hq => by injection hq with hq; subst hq; exact set_far _ _ (Nat.ne_of_gt HGW.out))
        have HX5 : Hid (W5.heap[w.heap.size]? = some (.cells #[.slice (some ⟨b, off, none⟩) n c, .slice (some ⟨g1, 0, none⟩) n c1] 31 (0, 0))) := by rw [← hW5]; exact (set_far _ _ (by have := HG1.out; omega)).trans HX4.out
        have HY5 : Hid (W5.heap[w.heap.size + 1]? = some (.cells #[.slice none 0 0, .slice none 0 0] 31 (0, 0))) := by rw [← hW5]; exact (set_far _ _ (by have := HG1.out; omega)).trans HY4.out
        have HB5 : Hid (Below w.heap.size w W5) := by rw [← hW5]; exact HB4.out.setCell (p := ⟨g1, k, none⟩) (by have := HG1.out; simp; omega) _
        have H15 : Hid (∀ u ∈ us.set k (.slice (some ⟨wr.heap.size, 0, none⟩) xn xn), u.oneCell' = true) := fun u' hu' => by
          rcases List.mem_or_eq_of_mem_set hu' with h | rfl
          · exact H1.out _ h
          · rfl
        have HI5 : Hid (InnerOf w W5 (Value.slice (some ⟨g1, 0, none⟩) n c1).ownBlock (.slice (some ⟨b, off, none⟩) n c) (.slice A' n c') l LL (us.set k (.slice (some ⟨wr.heap.size, 0, none⟩) xn xn)) (frS false l LL (k + 1))) := by
          unfold Hid
          rw [hnx.out]
          refine (HI4.out.past (q := g1) (Or.inr rfl) (HRS.out.fresh (by have := HG1.out; omega)) PV).set HUL.out HML.out (fun gg hgg => ?_)
          rw [List.length_replicate]
          refine St.of_own HN5.out ?_
          have hq1 := HGW.out
          have hq2 := HYW.out
          rcases hgg with h | h
          · omega
          · have h' : some g1 = some gg := h
            injection h' with h'; omega
        clear hHeld hW5 PV x0 x1 d1 d4
        go_wp2_with fail
        go_roundw
        case rel =>
          have Q : RFrRel false n l LL (.slice (some ⟨b, off, none⟩) n c) (.slice A' n c') (.slice (some ⟨g1, 0, none⟩) n c1) (Value.slice (some ⟨g1, 0, none⟩) n c1).ownBlock w.heap.size w (.int .i64 ((k : Int) + 1)) W5 := ⟨⟨k + 1, _, HLT.out, by go_num, HB5.out, HX5.out, HY5.out, HO5.out, H15.out, HI5.out⟩⟩
          first | exact Q | ((repeat apply Exists.intro); exact ⟨Q, rfl⟩)
        case measure => have := HLT.out; simp [intOf]; omega
      | true =>
        cases xk with
        | false =>
          have hnx : Hid (frS true l LL (k + 1) = (frS true l LL k).set k (List.replicate xn 0)) := by unfold Hid; rw [HFS.out, if_neg (by simp)]
          go_wp2_with fail
          refine wp_region_held_drew (S := (fun w' => w'.cell? ⟨w.heap.size, 0, none⟩ = some (.slice (some ⟨b, off, none⟩) n c) ∧ w'.cell? ⟨w.heap.size, 1, none⟩ = some (.slice (some ⟨g1, 0, none⟩) n c1) ∧ w'.cell? ⟨b, off + k * 5 + 1, none⟩ = some (.int .i64 (xn : Int)))) (by kernel_rfl) ?_ (fun hHeld => ?_)
          · exact ⟨HX0'.out, HX1'.out, HD1.out⟩
          refine takeD (i := 0) (d := some 29) (v := ?_) _ rfl rfl (by kernel_rfl) (by kernel_rfl) (by kernel_rfl) (fun _ _ _ h => h) (by rfl) ?_ (by assumption) ?_
          rotate_left
          · (intro w hSw; (try dsimp only at hSw); go_simp) <;> with_reducible rfl
          try simp only [Act.put, List.setIfInBounds_toArray, List.set_cons_zero, List.set_cons_succ]
          refine takeD (i := 1) (d := some 30) (v := ?_) _ rfl rfl (by kernel_rfl) (by kernel_rfl) (by kernel_rfl) (fun _ _ _ h => h) (by rfl) ?_ (by assumption) ?_
          rotate_left
          · (intro w hSw; (try dsimp only at hSw); go_simp) <;> with_reducible rfl
          try simp only [Act.put, List.setIfInBounds_toArray, List.set_cons_zero, List.set_cons_succ]
          refine takeD (i := 2) (d := some 31) (v := ?_) _ rfl rfl (by kernel_rfl) (by kernel_rfl) (by kernel_rfl) (fun _ _ _ h => h) (by rfl) ?_ (by assumption) ?_
          rotate_left
          · (intro w hSw; (try dsimp only at hSw); go_simp) <;> with_reducible rfl
          try simp only [Act.put, List.setIfInBounds_toArray, List.set_cons_zero, List.set_cons_succ]
          refine takeD (i := 3) (d := some 32) (v := ?_) _ rfl rfl (by kernel_rfl) (by kernel_rfl) (by kernel_rfl) (fun _ _ _ h => h) (by rfl) ?_ (by assumption) ?_
          rotate_left
          · (intro w hSw; (try dsimp only at hSw); go_simp) <;> with_reducible rfl
          try simp only [Act.put, List.setIfInBounds_toArray, List.set_cons_zero, List.set_cons_succ]
          refine takeD (i := 4) (d := some 33) (v := ?_) _ rfl rfl (by kernel_rfl) (by kernel_rfl) (by kernel_rfl) (fun _ _ _ h => h) (by rfl) ?_ (by assumption) ?_
          rotate_left
          · (intro w hSw; (try dsimp only at hSw); go_simp) <;> with_reducible rfl
          try simp only [Act.put, List.setIfInBounds_toArray, List.set_cons_zero, List.set_cons_succ]
          refine takeD (i := 5) (d := some 34) (v := ?_) _ rfl rfl (by kernel_rfl) (by kernel_rfl) (by kernel_rfl) (fun _ _ _ h => h) (by rfl) ?_ (by assumption) ?_
          rotate_left
          · (intro w hSw; (try dsimp only at hSw); go_simp) <;> with_reducible rfl
          try simp only [Act.put, List.setIfInBounds_toArray, List.set_cons_zero, List.set_cons_succ]
          refine takeD (i := 6) (d := some 35) (v := ?_) _ rfl rfl (by kernel_rfl) (by kernel_rfl) (by kernel_rfl) (fun _ _ _ h => h) (by rfl) ?_ (by assumption) ?_
          rotate_left
          · (intro w hSw; (try dsimp only at hSw); go_simp) <;> with_reducible rfl
          try simp only [Act.put, List.setIfInBounds_toArray, List.set_cons_zero, List.set_cons_succ]
          refine takeD (i := 7) (d := some 36) (v := ?_) _ rfl rfl (by kernel_rfl) (by kernel_rfl) (by kernel_rfl) (fun _ _ _ h => h) (by rfl) ?_ (by assumption) ?_
          rotate_left
          · (intro w hSw; (try dsimp only at hSw); go_simp) <;> with_reducible rfl
          try simp only [Act.put, List.setIfInBounds_toArray, List.set_cons_zero, List.set_cons_succ]
          refine takeD (i := 8) (d := some 37) (v := ?_) _ rfl rfl (by kernel_rfl) (by kernel_rfl) (by kernel_rfl) (fun _ _ _ h => h) (by rfl) ?_ (by assumption) ?_
          rotate_left
          · (intro w hSw; (try dsimp only at hSw); go_simp) <;> with_reducible rfl
          try simp only [Act.put, List.setIfInBounds_toArray, List.set_cons_zero, List.set_cons_succ]
          refine wpAnyH_ready (rs := [9]) (by kernel_rfl) (by simp) ?_
          refine AllReadyH.cons rfl (fun K hK => ?_) AllReadyH.nil
          go_simp
          try rw [HMK.out]
          try go_simp
          obtain ⟨W4, hW4⟩ : ∃ W4, (wr.alloc (.cells (madeCells #[.int .u32 0] xn) 39)).drew = W4 := ⟨_, rfl⟩
          simp only [hW4]
          have hv3 : (⟨wr.heap.size, 0, none⟩ : Addr) = ⟨wr.heap.size, 0, none⟩ := rfl
          have B4 : Hid (Below wr.heap.size wr W4) := by rw [← hW4]; exact below_drewN ((Below.refl _ _).alloc (Nat.le_refl _) _) 1
          have HN4 : Hid (W4.ownsRow wr.heap.size 39 1 (.slice (some ⟨wr.heap.size, 0, none⟩) xn xn) xn (CU (List.replicate xn 0))) := by rw [← hW4]; exact HRM.out wr
          have HO4 := Lib.hid (own_below HO.out B4.out)
          have HX4 := Lib.hid (heap_keep B4.out HX.out)
          have HY4 := Lib.hid (heap_keep B4.out HY.out)
          have HI4 := Lib.hid (HI.out.below B4.out)
          have HB4 : Hid (Below w.heap.size w W4) := HB.out.trans (B4.out.mono HB.out.size)
          refine hK.out _ _ ⟨cell_later B4.out HX0'.out, cell_later B4.out HX1'.out, cell_later B4.out HD1.out⟩ (fun hHeld => ?_)
          clear hK K hW4
          try simp only [Act.put, List.setIfInBounds_toArray, List.set_cons_zero, List.set_cons_succ]
          refine takeD (i := 10) (d := some 39) (v := ?_) _ rfl rfl (by kernel_rfl) (by kernel_rfl) (by kernel_rfl) (fun _ _ _ h => h) (by rfl) ?_ (by assumption) ?_
          rotate_left
          · (intro w hSw; (try dsimp only at hSw); go_simp) <;> with_reducible rfl
          try simp only [Act.put, List.setIfInBounds_toArray, List.set_cons_zero, List.set_cons_succ]
          obtain ⟨u0, hu0⟩ : ∃ u0, us[k]? = some u0 := ⟨_, List.getElem?_eq_getElem HUL.out⟩
          have y1 := (own_cell HO4.out hu0).1
          have y2 := (own_cell HO4.out hu0).2
          refine wpAnyH_ready (rs := [11]) (by kernel_rfl) (by simp) ?_
          refine AllReadyH.cons rfl (fun K hK => ?_) AllReadyH.nil
          go_simp
          refine hK.out _ _ ?_ (fun hHeld => ?_)
          · have hg := HG1.out
            have hb := HBL.out
            rw [World.cell?_setCell_far _ _ _ _ (by simp; omega), World.cell?_setCell_far _ _ _ _ (by simp; omega), World.cell?_setCell_far _ _ _ _ (by simp; omega)]
            exact hHeld
          clear hK K y1 y2 hu0 hHeld
          try simp only [Act.put, List.setIfInBounds_toArray, List.set_cons_zero, List.set_cons_succ]
          refine wpAnyH_done (by kernel_rfl) ?_ _
          obtain ⟨W5, hW5⟩ : ∃ W5, W4.setCell ⟨g1, k, none⟩ (.slice (some ⟨wr.heap.size, 0, none⟩) xn xn) = W5 := ⟨_, rfl⟩
          simp only [hW5] at hHeld ⊢
          have HGW : Hid (g1 < wr.heap.size) := (HO.out.lt g1 rfl).2
          have HYW : Hid (w.heap.size + 2 ≤ wr.heap.size) := (Array.getElem?_eq_some_iff.1 HY.out).1
          have PV : Past g1 W4 W5 := by rw [← hW5]; exact (Past.refl _ _).setCell _ _
          have HO5 : Hid (W5.ownsRow (w.heap.size + 2) 40 1 (.slice (some ⟨g1, 0, none⟩) n c1) n (us.set k (.slice (some ⟨wr.heap.size, 0, none⟩) xn xn))) := by rw [← hW5]; exact own_put HO4.out _
          have HN5 : Hid (W5.ownsRow wr.heap.size 39 1 (.slice (some ⟨wr.heap.size, 0, none⟩) xn xn) xn (CU (List.replicate xn 0))) := by
            rw [← hW5]; exact own_same HN4.out (fun q hq => by injection hq with hq; subst hq; exact set_far _ _ (Nat.ne_of_gt HGW.out))
          have HX5 : Hid (W5.heap[w.heap.size]? = some (.cells #[.slice (some ⟨b, off, none⟩) n c, .slice (some ⟨g1, 0, none⟩) n c1] 31 (0, 0))) := by rw [← hW5]; exact (set_far _ _ (by have := HG1.out; omega)).trans HX4.out
          have HY5 : Hid (W5.heap[w.heap.size + 1]? = some (.cells #[.slice none 0 0, .slice none 0 0] 31 (0, 0))) := by rw [← hW5]; exact (set_far _ _ (by have := HG1.out; omega)).trans HY4.out
          have HB5 : Hid (Below w.heap.size w W5) := by rw [← hW5]; exact HB4.out.setCell (p := ⟨g1, k, none⟩) (by have := HG1.out; simp; omega) _
          have H15 : Hid (∀ u ∈ us.set k (.slice (some ⟨wr.heap.size, 0, none⟩) xn xn), u.oneCell' = true) := fun u' hu' => by
            rcases List.mem_or_eq_of_mem_set hu' with h | rfl
            · exact H1.out _ h
            · rfl
          have HI5 : Hid (InnerOf w W5 (Value.slice (some ⟨g1, 0, none⟩) n c1).ownBlock (.slice (some ⟨b, off, none⟩) n c) (.slice A' n c') l LL (us.set k (.slice (some ⟨wr.heap.size, 0, none⟩) xn xn)) (frS true l LL (k + 1))) := by
            unfold Hid
            rw [hnx.out]
            refine (HI4.out.past (q := g1) (Or.inr rfl) (HRS.out.fresh (by have := HG1.out; omega)) PV).set HUL.out HML.out (fun gg hgg => ?_)
            rw [List.length_replicate]
            refine St.of_own HN5.out ?_
            have hq1 := HGW.out
            have hq2 := HYW.out
            rcases hgg with h | h
            · omega
            · have h' : some g1 = some gg := h
              injection h' with h'; omega
          clear hHeld hW5 PV x0 x1 d1 d4
          go_wp2_with fail
          go_roundw
          case rel =>
            have Q : RFrRel true n l LL (.slice (some ⟨b, off, none⟩) n c) (.slice A' n c') (.slice (some ⟨g1, 0, none⟩) n c1) (Value.slice (some ⟨g1, 0, none⟩) n c1).ownBlock w.heap.size w (.int .i64 ((k : Int) + 1)) W5 := ⟨⟨k + 1, _, HLT.out, by go_num, HB5.out, HX5.out, HY5.out, HO5.out, H15.out, HI5.out⟩⟩
            first | exact Q | ((repeat apply Exists.intro); exact ⟨Q, rfl⟩)
          case measure => have := HLT.out; simp [intOf]; omega
        | true =>
          have hnx : frS true l LL (k + 1) = frS true l LL k := by rw [HFS.out, if_pos ⟨rfl, rfl⟩]
          go_wp2_with fail
          go_roundw
          case rel =>
            have Q : RFrRel true n l LL (.slice (some ⟨b, off, none⟩) n c) (.slice A' n c') (.slice (some ⟨g1, 0, none⟩) n c1) (Value.slice (some ⟨g1, 0, none⟩) n c1).ownBlock w.heap.size w (.int .i64 ((k : Int) + 1)) wr := ⟨⟨k + 1, us, HLT.out, by go_num, HB.out, HX.out, HY.out, HO.out, H1.out, by rw [hnx]; exact HI.out⟩⟩
            first | exact Q | ((repeat apply Exists.intro); exact ⟨Q, rfl⟩)
          case measure => have := HLT.out; simp [intOf]; omega
    · have hkn : k = n := by have := HK.out; omega
      clear hlt
      subst hkn
      have t0 := (row_cell HY.out 0).1
      have t1 := (row_cell HY.out 1).1
      have f0 := (row_cell HY.out 0).2
      have f1 := (row_cell HY.out 1).2
      simp at t0 t1
      go_wp2_with fail
      refine bodyPost_ret (results_cell_mid rfl _ _ (w.heap.size + 1) _ _ rfl (set_two HY.out _ _) Try.underlying31 rfl (by kernel_rfl)) rfl ?_
      have BW := (HB.out.setCell (p := ⟨w.heap.size + 1, 0, none⟩) (by simp) (.slice A k c)).setCell (p := ⟨w.heap.size + 1, 1, none⟩) (by simp) (.slice A1 k c1)
      have PV : Past (w.heap.size + 1) wr ((wr.setCell ⟨w.heap.size + 1, 0, none⟩ (.slice A k c)).setCell ⟨w.heap.size + 1, 1, none⟩ (.slice A1 k c1)) := ((Past.refl _ _).setCell 0 _).setCell 1 _
      have hin := HI.out.past (q := w.heap.size + 1) (Or.inl (by omega)) (HRS.out.fresh (by omega)) PV
      refine ⟨⟨_, rfl, fun gg hgg hr => ⟨hr.a.below BW, ⟨us, ?_, hin gg (Or.inl (by omega)) hr, H1.out⟩⟩⟩, BW⟩
      rw [(HS.out.fresh keep k).len, HN.out]
      exact St.of_own (ownsRow_setCell_below (ownsRow_setCell_below HO.out (by simp) _) (by simp) _) (by omega)
end Go.Proofs.Ytliggejkpmlgfaa
