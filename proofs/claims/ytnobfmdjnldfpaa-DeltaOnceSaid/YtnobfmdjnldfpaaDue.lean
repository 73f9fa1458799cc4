/-
  The contract of Due. Each statement bears its own conditions.
-/
import Derived.Test.YtnobfmdjnldfpaaClone
namespace Go.Proofs.Ytnobfmdjnldfpaa
open Go.RowKit
set_option linter.unusedVariables false
set_option linter.unusedSimpArgs false
theorem int_info : (Try.prog.info? 3).map (fun i => (i.zero, i.size, i.bytes)) = some (some (.int .i64 0), 1, 8) := by kernel_rfl
theorem reads_newI (w : World) (vs : List Value) (e : TypeId) : Reads (w.alloc (.cells vs.toArray e)) (w.heap.size + 1) 1 (some ⟨w.heap.size, 0, none⟩) vs.length vs :=
  ⟨by simp, fun _ => ⟨_, rfl, by simp, fun j u hu => by
    rw [Addr.add_lit, Nat.zero_add, World.cell?_alloc_new]; simpa using hu⟩⟩
theorem own_ofI {B : Nat} {W w w' : World} {v v' : Value} {n n' : Nat} {l l' : List Int} (hown : w.ownsRow B 3 1 v n (I l)) (hW : Below B W w) (hB : B ≤ w.heap.size) (hown' : w'.ownsRow B 3 1 v' n' (I l')) (hg : w.grownBy w' v.ownBlock) :
    ∃ A c, v' = .slice A n' c ∧ w'.ownsRow B 3 1 (.slice A n' c) n' (I l') ∧ Below B W w' := by
  obtain ⟨A, c, hv⟩ := slice_form hown'
  exact ⟨A, c, hv, hv ▸ hown', hW.grown hg hB (fun q hq => (hown.lt q hq).1)⟩
theorem own_keepI {w w' : World} {B B' : Nat} {e : TypeId} {size : Nat} {v : Value} {n : Nat} {xs : List Value} (h : w.ownsRow B e size v n xs) (hB : B' ≤ B) (hk : ∀ b, B ≤ b → b < w.heap.size → w'.heap[b]? = w.heap[b]?) : w'.ownsRow B' e size v n xs := by
  refine ⟨h.1, ?_⟩
  rcases h.2 with h0 | ⟨g, cap, cur, hv, hg, hh, hr⟩
  · exact .inl h0
  · refine .inr ⟨g, cap, cur, hv, Nat.le_trans hB hg, ?_, hr⟩
    rw [hk g hg ((Array.getElem?_eq_some_iff.1 hh).1)]
    exact hh
theorem take_map {L : List (Int × Int)} {j : Nat} (h : j < L.length) : (L.take (j + 1)).map Prod.fst = (L.take j).map Prod.fst ++ [(L.getD j (0, 0)).1] := by
  rw [take_getD h]; simp
structure DRel (B k : Nat) (L : List (Int × Int)) (w : World) (v iv : Value) (wr : World) : Prop where
  ex : ∃ j A c, j ≤ k ∧ iv = .int .i64 (j : Int) ∧ v = .slice A j c ∧ wr.ownsRow B 3 1 (.slice A j c) j (I ((L.take j).map Prod.fst)) ∧ Below B w wr
theorem due_any (g rb : Nat) (now : Int) (L : List (Int × Int)) (w : World) (h : TF w g rb L) (hs : Srt L) (hL : L.length ≤ 1000) :
    Calls Try.prog 14 #[.pointer (some ⟨g, 0, none⟩), .int .i64 now] w fun e w' => ∃ A c, e = .returned (.slice A (cnt L now) c) ∧ w'.ownsRow w.heap.size 3 1 (.slice A (cnt L now) c) (cnt L now) (I ((L.take (cnt L now)).map Prod.fst)) ∧ TF w' g rb (L.drop (cnt L now)) ∧ Ch g rb w w' := by
  have UN := Lib.hid (until_any g rb now L w h hs hL)
  obtain ⟨i0, hi, hz0, hz1, hz2⟩ := info_of int_info
  obtain ⟨k, hk⟩ : ∃ k, cnt L now = k := ⟨_, rfl⟩
  have hkl : k ≤ L.length := hk ▸ cnt_le L now
  rw [hk] at UN ⊢
  have HT := Lib.hid h
  have HL := Lib.hid hL
  obtain ⟨v, hc, hr, hne⟩ := h.ex
  rcases hr.form with ⟨rfl, h0⟩ | ⟨cap, cur, rfl, hg, h1, h2, h3, h4⟩
  · subst h0
    have hk0 : k = 0 := by simpa using hkl
    subst hk0
    have HNE := Lib.hid hne
    clear hs hL hk hkl h hne
    go_enter Try.func14, Try.ntmps14
    go_wp2_with fail
    refine UN.out.mono ?_
    rintro e w1 ⟨rfl, b1⟩
    have hc1 := cell_later b1 hc
    have HB1 := Lib.hid b1
    have HR := Lib.hid hr
    clear b1 hr hc UN
    go_wp2_with fail
    go_loopw [6, 19] (fun v iv wr => DRel w1.heap.size 0 [] w1 v iv wr) (fun _ i => fun _ => 1001 - (intOf i).toNat)
    case atStart => exact ⟨⟨0, none, 0, Nat.le_refl _, rfl, rfl, World.ownsRow_nil _ _ _ _, Below.refl _ _⟩⟩
    case round =>
      obtain ⟨⟨j, A, c, hj, rfl, rfl, ho, hb⟩⟩ := hrel
      have hj0 : j = 0 := by omega
      subst hj0
      have hc2 := cell_later hb hc1
      have HB2 := Lib.hid (HB1.out.trans (hb.mono HB1.out.size))
      have HO := Lib.hid ho
      have DE := Lib.hid (delete_same (.slice none 0 0) rb 0 [] wr (HR.out.keep (.inl rfl)) (Nat.le_refl _) (by simp))
      clear ho hb hj hc1
      go_wp2_with fail
      refine DE.out.mono ?_
      rintro e w2 ⟨rfl, hw2⟩
      subst hw2
      have hT := HT.out.below HB2.out
      have kf : ∀ o, w2.frozen? ⟨g, o, none⟩ = false := hT.fz
      have HS : Hid (TF (w2.setCell ⟨g, 0, none⟩ (.slice none 0 0)) g rb []) := ⟨by simpa [World.setCell] using hT.lt, fun o => by rw [World.frozen?_setCell]; exact kf o, by simpa [World.setCell] using hT.rlt, .slice none 0 0, World.cell?_setCell_same' _ _ _ (by rw [hc2]; rfl), HR.out.keep (.inl rfl), HNE.out.imp (fun h => ⟨rfl, h.2⟩) id⟩
      have HC := Lib.hid ((Ch.of_below (g := g) (rb := rb) HB2.out).set 0 (.slice none 0 0))
      have HW : Hid ((w2.setCell ⟨g, 0, none⟩ (.slice none 0 0)).ownsRow w.heap.size 3 1 (.slice A 0 c) 0 (I (([] : List (Int × Int)).map Prod.fst))) :=
        own_keepI HO.out HB1.out.size fun b b1 b2 => by
          have := HB1.out.size; have := HT.out.lt
          rw [Below.heap_setCell _ _ _ _ (show b ≠ g by omega)]
      clear DE hT
      go_wp2_with fail
      go_ret
      exact ⟨A, c, rfl, HW.out, HS.out, HC.out⟩
  · have hne' : rb ≠ g := by
      rcases hne with ⟨hv, _⟩ | hne
      · cases hv
      · exact hne
    obtain ⟨n, hn⟩ : ∃ n, L.length = n := ⟨_, rfl⟩
    have HNE := Lib.hid hne'
    have HR := Lib.hid hr
    have HN := Lib.hid hn
    rw [hn] at hkl hc h1
    have hkc : (k : Int) ≤ (cap : Int) := by omega
    have hkn : Hid (k ≤ n) := hkl
    have hk1 : Hid (k ≤ 1000) := by have := HL.out; unfold Hid; omega
    clear hs hL hk hkl h hne hne' hg h1 h2 h3 h4
    go_enter Try.func14, Try.ntmps14
    go_wp2_with fail
    refine UN.out.mono ?_
    rintro e w1 ⟨rfl, b1⟩
    have hc1 := cell_later b1 hc
    have HB1 := Lib.hid b1
    clear b1 hr hc UN
    go_wp2_with fail
    go_loopw [6, 19] (fun v iv wr => DRel w1.heap.size k L w1 v iv wr) (fun _ i => fun _ => 1001 - (intOf i).toNat)
    case atStart => exact ⟨⟨0, none, 0, Nat.zero_le _, rfl, rfl, World.ownsRow_nil _ _ _ _, Below.refl _ _⟩⟩
    case round =>
      obtain ⟨⟨j, A, c, hj, rfl, rfl, ho, hb⟩⟩ := hrel
      have hc2 := cell_later hb hc1
      have HB2 := Lib.hid (HB1.out.trans (hb.mono HB1.out.size))
      have HO := Lib.hid ho
      have HBW := Lib.hid hb
      by_cases hlt : j < k
      · obtain ⟨_, d0, d1, hrl⟩ := HR.out.cells j (by have := HN.out; have := hkn.out; omega)
        have d0 := cell_later HB2.out d0
        have d1 := cell_later HB2.out d1
        obtain ⟨x, hx⟩ : ∃ x, Hid ((L.getD j (0, 0)).1 = x) := ⟨_, rfl⟩
        obtain ⟨y, hy⟩ : ∃ y, Hid ((L.getD j (0, 0)).2 = y) := ⟨_, rfl⟩
        rw [hx.out] at d0
        rw [hy.out] at d1
        have hjI : (j : Int) < (k : Int) := by omega
        have hj2 : (j : Int) < 1000 := by have := hk1.out; omega
        have HX : Hid (j < k) := hlt
        clear ho hb hj hlt hrl
        go_wp2_with (at_builtin; refine wpList_append_any _ rfl (.tmp 23) (.tmp 26) _ rfl w1.heap.size 3 i0 _ 1 8 Try.underlying31 hi hz0 hz1 hz2 rfl (by omega) (.slice A j c) j (I ((L.take j).map Prod.fst)) rfl (own_below HO.out (((Below.refl _ _).alloc (Nat.le_refl _) _).alloc (by simp) _)) (wr.heap.size + 1 + 1) (some ⟨wr.heap.size + 1, 0, none⟩) 1 1 (I [x]) rfl (by simpa [I] using reads_newI (wr.alloc (.cells #[.int .i64 x, .int .i64 y] 60)) (I [x]) 3) (I_one _) ?c2 ?c3 ?c4 ?_)
        case c2 => have := hk1.out; have := HX.out; unfold maxLen; omega
        case c3 => have := hk1.out; have := HX.out; omega
        case c4 => have := HBW.out.size; simp; omega
        intro v1 w3 hown1 hg1 _
        have hown1' : w3.ownsRow w1.heap.size 3 1 v1 (j + 1) (I ((L.take j).map Prod.fst ++ [x])) := by simpa [I] using hown1
        rw [← hx.out, ← take_map (by have := HN.out; have := hkn.out; have := HX.out; omega)] at hown1'
        obtain ⟨A1, c1, hv, ho1, hb1⟩ := own_ofI (own_below HO.out (((Below.refl _ _).alloc (Nat.le_refl _) _).alloc (by simp) _)) ((HBW.out.alloc HBW.out.size _).alloc (by have := HBW.out.size; simp; omega) _) (by have := HBW.out.size; simp; omega) hown1' hg1
        rw [hv]
        have HO1 := Lib.hid ho1
        have HBb := Lib.hid hb1
        clear hv hown1 hown1' hg1 ho1 hb1
        go_wp2_with fail
        go_roundw
        case rel => first | exact ⟨⟨j + 1, A1, c1, HX.out, by go_num, rfl, HO1.out, HBb.out⟩⟩ | ((repeat apply Exists.intro); exact ⟨⟨⟨j + 1, A1, c1, HX.out, by go_num, rfl, HO1.out, HBb.out⟩⟩, rfl⟩)
        case measure => have := hk1.out; have := HX.out; simp [intOf]; omega
      · have hjk : j = k := by omega
        subst hjk
        have DE := Lib.hid (delete_any (.slice (some ⟨rb, 0, none⟩) L.length cap) rb 0 j L wr (HR.out.keep (.inr (HB2.out.block rb HT.out.rlt))) (Nat.zero_le _) (by have := HN.out; have := hkn.out; omega) HL.out)
        rw [HN.out] at DE
        clear ho hb hj hlt
        go_wp2_with fail
        refine DE.out.mono ?_
        rintro e w2 ⟨v', rfl, hr', hp'⟩
        have hr'' : RowV w2 v' rb (L.drop j) := by simpa using hr'
        have hT := HT.out
        have hgs : g < wr.heap.size := Nat.lt_of_lt_of_le hT.lt HB2.out.size
        have hrs : rb < wr.heap.size := Nat.lt_of_lt_of_le hT.rlt HB2.out.size
        have hgb := hp'.block g hgs HNE.out.symm
        have k0 := (World.cell?_of_block (a := ⟨g, 0, none⟩) hgb).trans hc2
        have kf : ∀ o, w2.frozen? ⟨g, o, none⟩ = false := fun o => (World.frozen?_of_block (a := ⟨g, o, none⟩) hgb).trans ((World.frozen?_of_block (a := ⟨g, o, none⟩) (HB2.out.block g hT.lt)).trans (hT.fz o))
        have HS := Lib.hid (TF.store (L0 := L) (Nat.lt_of_lt_of_le hgs hp'.size) k0 kf hr'' HNE.out (Nat.lt_of_lt_of_le hrs hp'.size))
        have HC := Lib.hid (((Ch.of_below (g := g) (rb := rb) HB2.out).trans (Ch.of_past hp') (.inl rfl)).set 0 v')
        have HW : Hid ((w2.setCell ⟨g, 0, none⟩ v').ownsRow w.heap.size 3 1 (.slice A j c) j (I ((L.take j).map Prod.fst))) :=
          own_keepI HO.out HB1.out.size fun b b1 b2 => by
            have := HB1.out.size; have := hT.lt; have := hT.rlt
            rw [Below.heap_setCell _ _ _ _ (show b ≠ g by omega), hp'.block b b2 (show b ≠ rb by omega)]
        obtain ⟨A', c', hv', _⟩ := hr''.slice
        obtain ⟨n', hn'⟩ : ∃ n', Hid ((L.drop j).length = n') := ⟨_, rfl⟩
        rw [hn'.out] at hv'
        subst hv'
        clear hr' hr'' hp' hgb DE hT hgs hrs
        go_wp2_with fail
        go_ret
        exact ⟨A, c, rfl, HW.out, HS.out, HC.out⟩
end Go.Proofs.Ytnobfmdjnldfpaa
