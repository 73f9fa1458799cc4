/-
  The reference's At, Drop and Set. Each statement bears its own conditions.
-/
import Derived.Test.YtnobfmdjnldfpaaDrops
namespace Go.Proofs.Ytnobfmdjnldfpaa
open Go.RowKit
set_option linter.unusedVariables false
set_option linter.unusedSimpArgs false
theorem pair_info : (Try.prog.info? 66).map (fun i => (i.zero, i.size, i.bytes)) = some (some (.agg #[.int .i64 0, .int .i64 0]), 2, 16) := by kernel_rfl
theorem place_p {w : World} {B n : Nat} {A : Option Addr} {L : List (Int × Int)} (h : Reads w B 2 A n (C L)) (hn : 0 < n) : ∃ b off, A = some ⟨b, off, none⟩ ∧ b < B ∧ L.length = n ∧ ∀ i, i < n → w.cell? ⟨b, off + i * 2, none⟩ = some (.int .i64 (L.getD i (0, 0)).1) ∧ w.cell? ⟨b, off + i * 2 + 1, none⟩ = some (.int .i64 (L.getD i (0, 0)).2) := by
  obtain ⟨⟨b, off, spot⟩, hA, hb, hc⟩ := h.2 hn
  have hl : L.length = n := by have := h.1; rw [C_len] at this; omega
  have e0 := hc (0 * 2) _ (C_at L 0 (by omega)).1
  have hs : spot = none := by simpa [Addr.add] using World.cell?_spot e0
  subst hs
  refine ⟨b, off, hA, hb, hl, fun i hi => ?_⟩
  have a := hc _ _ (C_at L i (by omega)).1
  have b := hc _ _ (C_at L i (by omega)).2
  rw [Addr.add_lit] at a b
  exact ⟨a, by rw [Nat.add_assoc]; exact b⟩
theorem own_ofP {B : Nat} {W w w' : World} {v v' : Value} {n n' : Nat} {l l' : List (Int × Int)} (hown : w.ownsRow B 66 2 v n (C l)) (hW : Below B W w) (hB : B ≤ w.heap.size) (hown' : w'.ownsRow B 66 2 v' n' (C l')) (hg : w.grownBy w' v.ownBlock) :
    ∃ A c, v' = .slice A n' c ∧ w'.ownsRow B 66 2 (.slice A n' c) n' (C l') ∧ Below B W w' := by
  obtain ⟨A, c, hv⟩ := slice_form hown'
  exact ⟨A, c, hv, hv ▸ hown', hW.grown hg hB (fun q hq => (hown.lt q hq).1)⟩
theorem row_newP (B : Nat) (w : World) (hB : B ≤ w.heap.size) : (w.alloc (.cells #[] 66)).ownsRow B 66 2 (.slice (some ⟨w.heap.size, 0, none⟩) 0 0) 0 (C []) :=
  ⟨rfl, .inr ⟨w.heap.size, 0, #[], rfl, hB, heap_alloc_new w _, Nat.le_refl _, by unfold maxLen; omega, rfl, rfl⟩⟩
theorem reads_newP (w : World) (x y : Int) : Reads (w.alloc (.cells #[.int .i64 x, .int .i64 y] 66)) (w.heap.size + 1) 2 (some ⟨w.heap.size, 0, none⟩) 1 (C [(x, y)]) :=
  ⟨by simp [C], fun _ => ⟨_, rfl, by simp, fun j u hu => by
    rw [Addr.add_lit, Nat.zero_add, World.cell?_alloc_new]; simpa [C] using hu⟩⟩
structure RaRel (n : Nat) (L : List (Int × Int)) (id : Int) (w : World) (iv : Value) (wr : World) : Prop where
  ex : ∃ j : Nat, j ≤ n ∧ iv = .int .i64 (j : Int) ∧ (∀ k, k < j → (L.getD k (0, 0)).1 ≠ id) ∧ Below w.heap.size w wr
set_option maxRecDepth 100000 in
theorem rat_any (A : Option Addr) (n c : Nat) (id : Int) (L : List (Int × Int)) (w : World) (B : Nat) (h : Reads w B 2 A n (C L)) (hL : L.length = n) (hn : n ≤ 1000) (hB : B ≤ w.heap.size) :
    Calls Try.prog 15 #[.slice A n c, .int .i64 id] w fun e w' => e = .returned (.tuple #[.int .i64 (atV L id), .bool (hasB L id)]) ∧ Below w.heap.size w w' := by
  have H := Lib.hid h
  have HL := Lib.hid hL
  have HN := Lib.hid hn
  clear h hL hn hB
  obtain ⟨av, hav⟩ : ∃ x, atV L id = x := ⟨_, rfl⟩
  obtain ⟨bv, hbv⟩ : ∃ x, hasB L id = x := ⟨_, rfl⟩
  have HAV := Lib.hid hav
  have HBV := Lib.hid hbv
  rw [hav, hbv]
  clear hav hbv
  go_enter Try.func15, Try.ntmps15
  go_wp2_with fail
  go_loopw [6] (fun i wr => RaRel n L id w i wr) (fun i => fun _ => 1001 - (intOf i).toNat)
  case atStart => exact ⟨⟨0, Nat.zero_le _, rfl, fun k hk => by omega, Below.refl _ _⟩⟩
  case round =>
    obtain ⟨⟨j, hj, rfl, hall, hb⟩⟩ := hrel
    have HB := Lib.hid hb
    have HALL := Lib.hid hall
    clear hb hall
    by_cases hlt : j < n
    · obtain ⟨b, off, rfl, _, _, hc⟩ := place_p H.out (by omega)
      obtain ⟨c0, c1⟩ := hc j hlt
      obtain ⟨x, hx⟩ : ∃ x, Hid ((L.getD j (0, 0)).1 = x) := ⟨_, rfl⟩
      obtain ⟨y, hy⟩ : ∃ x, Hid ((L.getD j (0, 0)).2 = x) := ⟨_, rfl⟩
      rw [hx.out] at c0
      rw [hy.out] at c1
      have d0 := cell_later HB.out c0
      have d1 := cell_later HB.out c1
      have hjI : (j : Int) < (n : Int) := by omega
      have hj2 : (j : Int) < 1000 := by have := HN.out; omega
      have HX : Hid (j < n) := hlt
      clear hc c0 c1 hlt hj
      by_cases he : x = id
      · have HP : Hid (pos L id = j) := pos_hit (by rw [HL.out]; exact HX.out) HALL.out (by rw [hx.out]; exact he)
        have HV : Hid (av = y ∧ bv = true) := by
          unfold Hid
          rw [← HAV.out, ← HBV.out]
          unfold atV hasB
          rw [HP.out, if_pos (by rw [HL.out]; exact HX.out), hy.out]
          exact ⟨rfl, decide_eq_true (by rw [HL.out]; exact HX.out)⟩
        subst he
        go_wp2_with fail
        go_ret2
        rw [HV.out.1, HV.out.2]
        exact ⟨rfl, HB.out⟩
      · have HE := Lib.hid he
        have heb : (x == id) = false := by simpa using he
        clear he
        go_wp2_with fail
        go_roundw
        case rel =>
          have Q : RaRel n L id w (.int .i64 ((j : Int) + 1)) wr := ⟨⟨j + 1, HX.out, by go_num, fun k hk => by
            rcases Nat.lt_succ_iff_lt_or_eq.1 hk with h | h
            · exact HALL.out k h
            · rw [h, hx.out]; exact HE.out, HB.out⟩⟩
          first | exact Q | ((repeat apply Exists.intro); exact ⟨Q, rfl⟩)
        case measure => have := HX.out; have := HN.out; simp [intOf]; omega
    · have hjI : ¬ (j : Int) < (n : Int) := by omega
      have HV : Hid (av = 0 ∧ bv = false) := by
        have hp : ¬ pos L id < L.length := by rw [pos_none (L := L) (id := id) (fun k hk => HALL.out k (by rw [HL.out] at hk; omega))]; omega
        unfold Hid
        rw [← HAV.out, ← HBV.out]
        unfold atV hasB
        rw [if_neg hp]
        exact ⟨rfl, decide_eq_false hp⟩
      clear hlt hj
      go_wp2_with fail
      go_ret2
      rw [HV.out.1, HV.out.2]
      exact ⟨rfl, HB.out⟩
/-- The pairs whose id is another. -/
def cut (L : List (Int × Int)) (id : Int) : List (Int × Int) := L.filter (fun x => !decide (x.1 = id))
theorem cut_app (L : List (Int × Int)) (x : Int × Int) (id : Int) : cut (L ++ [x]) id = cut L id ++ (if x.1 = id then [] else [x]) := by
  unfold cut; rw [List.filter_append]
  by_cases h : x.1 = id <;> simp [h]
theorem cut_len (L : List (Int × Int)) (id : Int) : (cut L id).length ≤ L.length := List.length_filter_le _ _
structure RdRel (n : Nat) (L : List (Int × Int)) (id : Int) (w : World) (v iv : Value) (wr : World) : Prop where
  ex : ∃ (j : Nat) (A : Option Addr) (c m : Nat), j ≤ n ∧ iv = .int .i64 (j : Int) ∧ v = .slice A m c ∧ wr.ownsRow w.heap.size 66 2 (.slice A m c) m (C (cut (L.take j) id)) ∧ (cut (L.take j) id).length = m ∧ Below w.heap.size w wr ∧ w.heap.size < wr.heap.size
set_option maxRecDepth 100000 in
theorem rdrop_any (A : Option Addr) (n c : Nat) (id : Int) (L : List (Int × Int)) (w : World) (B : Nat) (h : Reads w B 2 A n (C L)) (hL : L.length = n) (hn : n ≤ 1000) (hB : B ≤ w.heap.size) :
    Calls Try.prog 17 #[.slice A n c, .int .i64 id] w fun e w' => ∃ A' c', e = .returned (.slice A' (cut L id).length c') ∧ w'.ownsRow w.heap.size 66 2 (.slice A' (cut L id).length c') (cut L id).length (C (cut L id)) ∧ Below w.heap.size w w' := by
  obtain ⟨i0, hi, hz0, hz1, hz2⟩ := info_of pair_info
  have H := Lib.hid h
  have HL := Lib.hid hL
  have HN := Lib.hid hn
  clear h hL hn hB
  go_enter Try.func17, Try.ntmps17
  go_wp2_with fail
  go_loopw [5, 6] (fun v i wr => RdRel n L id w v i wr) (fun _ i => fun _ => 1001 - (intOf i).toNat)
  case atStart => exact ⟨⟨0, _, 0, 0, Nat.zero_le _, rfl, rfl, row_newP _ w (Nat.le_refl _), rfl, (Below.refl _ _).alloc (Nat.le_refl _) _, by simp⟩⟩
  case round =>
    obtain ⟨⟨j, A1, c1, m, hj, rfl, rfl, ho, hm, hb, hsz⟩⟩ := hrel
    have HB := Lib.hid hb
    have HO := Lib.hid ho
    have HM := Lib.hid hm
    have HSZ := Lib.hid hsz
    clear hb ho hm hsz
    by_cases hlt : j < n
    · obtain ⟨b, off, rfl, _, _, hc⟩ := place_p H.out (by omega)
      obtain ⟨c0, c1'⟩ := hc j hlt
      obtain ⟨x, hx⟩ : ∃ x, Hid ((L.getD j (0, 0)).1 = x) := ⟨_, rfl⟩
      obtain ⟨y, hy⟩ : ∃ x, Hid ((L.getD j (0, 0)).2 = x) := ⟨_, rfl⟩
      rw [hx.out] at c0
      rw [hy.out] at c1'
      have d0 := cell_later HB.out c0
      have d1 := cell_later HB.out c1'
      have hjI : (j : Int) < (n : Int) := by omega
      have hj2 : (j : Int) < 1000 := by have := HN.out; omega
      have HX : Hid (j < n) := hlt
      have HT : Hid (cut (L.take (j + 1)) id = cut (L.take j) id ++ (if x = id then [] else [(x, y)])) := by
        unfold Hid
        rw [take_getD (by rw [HL.out]; exact HX.out), cut_app, hx.out, show L.getD j (0, 0) = (x, y) from Prod.ext hx.out hy.out]
      have HMl : Hid (m ≤ 1000) := by
        unfold Hid
        have h1 := cut_len (L.take j) id
        rw [HM.out] at h1
        have := HX.out; have := HN.out
        simp at h1; omega
      clear hc c0 c1' hlt hj
      by_cases he : x = id
      · rw [if_pos he, List.append_nil] at HT
        go_wp2_with fail
        go_roundw
        case rel =>
          have Q : RdRel n L id w (.slice A1 m c1) (.int .i64 ((j : Int) + 1)) wr := ⟨⟨j + 1, A1, c1, m, HX.out, by go_num, rfl, by rw [HT.out]; exact HO.out, by rw [HT.out]; exact HM.out, HB.out, HSZ.out⟩⟩
          first | exact Q | ((repeat apply Exists.intro); exact ⟨Q, rfl⟩)
        case measure => have := HX.out; have := HN.out; simp [intOf]; omega
      · rw [if_neg he] at HT
        have heb : (x != id) = true := by simpa using he
        clear he
        go_wp2_with (at_builtin; refine wpList_append_any _ rfl (.tmp 21) (.tmp 26) _ rfl w.heap.size 66 i0 _ 2 16 Try.underlying26 hi hz0 hz1 hz2 rfl (by omega) (.slice A1 m c1) m (C (cut (L.take j) id)) rfl (own_below HO.out ((Below.refl _ _).alloc (Nat.le_refl _) _)) (wr.heap.size + 1) (some ⟨wr.heap.size, 0, none⟩) 1 1 (C [(x, y)]) rfl (reads_newP wr x y) (C_one _) ?c2 ?c3 ?c4 ?_)
        case c2 => have := HMl.out; unfold maxLen; omega
        case c3 => have := HMl.out; omega
        case c4 => have := HSZ.out; simp; omega
        intro v1 w9 hown1 hg1 _
        have hown1' : w9.ownsRow w.heap.size 66 2 v1 (m + 1) (C (cut (L.take j) id ++ [(x, y)])) := by rw [C_app]; exact hown1
        rw [← HT.out] at hown1'
        obtain ⟨A2, c2, hv, ho1, hb1⟩ := own_ofP (own_below HO.out ((Below.refl _ _).alloc (Nat.le_refl _) _)) (HB.out.alloc HB.out.size _) (by have := HSZ.out; simp; omega) hown1' hg1
        rw [hv]
        have HO1 := Lib.hid ho1
        have HB1 := Lib.hid hb1
        have HSZ1 : Hid (w.heap.size < w9.heap.size) := by unfold Hid; have := HSZ.out; have := hg1.size; simp at this; omega
        clear hv hown1 hown1' hg1 ho1 hb1
        go_wp2_with fail
        go_roundw
        case rel =>
          have Q : RdRel n L id w (.slice A2 (m + 1) c2) (.int .i64 ((j : Int) + 1)) w9 := ⟨⟨j + 1, A2, c2, m + 1, HX.out, by go_num, rfl, HO1.out, by rw [HT.out, List.length_append, HM.out]; rfl, HB1.out, HSZ1.out⟩⟩
          first | exact Q | ((repeat apply Exists.intro); exact ⟨Q, rfl⟩)
        case measure => have := HX.out; have := HN.out; simp [intOf]; omega
    · have hjI : ¬ (j : Int) < (n : Int) := by omega
      have hjn : j = n := by omega
      rw [hjn, ← HL.out, List.take_length] at HO HM
      clear hlt hj hjn
      go_wp2_with fail
      go_ret
      rw [HM.out]
      exact ⟨A1, c1, rfl, HO.out, HB.out⟩
/-- What Set answers: the others, and the new one behind. -/
def mset (L : List (Int × Int)) (id at_ : Int) : List (Int × Int) := cut L id ++ [(id, at_)]
theorem mset_len (L : List (Int × Int)) (id at_ : Int) : (mset L id at_).length ≤ L.length + 1 := by
  unfold mset; have := cut_len L id; simp; omega
theorem rset_any (A : Option Addr) (n c : Nat) (id at_ : Int) (L : List (Int × Int)) (w : World) (B : Nat) (h : Reads w B 2 A n (C L)) (hL : L.length = n) (hn : n ≤ 1000) (hB : B ≤ w.heap.size) :
    Calls Try.prog 20 #[.slice A n c, .int .i64 id, .int .i64 at_] w fun e w' => ∃ A' c', e = .returned (.slice A' (mset L id at_).length c') ∧ w'.ownsRow w.heap.size 66 2 (.slice A' (mset L id at_).length c') (mset L id at_).length (C (mset L id at_)) ∧ Below w.heap.size w w' := by
  obtain ⟨i0, hi, hz0, hz1, hz2⟩ := info_of pair_info
  have DR := Lib.hid (rdrop_any A n c id L w B h hL hn hB)
  have HC : Hid ((cut L id).length ≤ 1000) := Nat.le_trans (cut_len _ _) (by omega)
  have HM : Hid ((mset L id at_).length = (cut L id).length + 1 ∧ C (mset L id at_) = C (cut L id) ++ C [(id, at_)]) := by
    unfold Hid mset; rw [C_app]; simp
  rw [HM.out.1, HM.out.2]
  obtain ⟨D, hD⟩ : ∃ D, cut L id = D := ⟨_, rfl⟩
  rw [hD] at DR HC ⊢
  obtain ⟨m, hm⟩ : ∃ m, D.length = m := ⟨_, rfl⟩
  rw [hm] at DR HC ⊢
  clear h hL hn hB HM hD hm
  go_enter Try.func20, Try.ntmps20
  go_wp2_with fail
  refine DR.out.mono ?_
  rintro e w1 ⟨A1, c1, rfl, o1, b1⟩
  have HO := Lib.hid o1
  have HB := Lib.hid b1
  clear o1 b1 DR
  go_wp2_with (at_builtin; refine wpList_append_any _ rfl (.tmp 9) (.tmp 13) _ rfl w.heap.size 66 i0 _ 2 16 Try.underlying26 hi hz0 hz1 hz2 rfl (by omega) (.slice A1 m c1) m (C D) rfl (own_below HO.out ((Below.refl _ _).alloc (Nat.le_refl _) _)) (w1.heap.size + 1) (some ⟨w1.heap.size, 0, none⟩) 1 1 (C [(id, at_)]) rfl (reads_newP w1 id at_) (C_one _) ?c2 ?c3 ?c4 ?_)
  case c2 => have := HC.out; unfold maxLen; omega
  case c3 => have := HC.out; omega
  case c4 => have := HB.out.size; simp; omega
  intro v1 w9 hown1 hg1 _
  have hown1' : w9.ownsRow w.heap.size 66 2 v1 (m + 1) (C (D ++ [(id, at_)])) := by rw [C_app]; exact hown1
  obtain ⟨A2, c2, hv, ho1, hb1⟩ := own_ofP (own_below HO.out ((Below.refl _ _).alloc (Nat.le_refl _) _)) (HB.out.alloc HB.out.size _) (by have := HB.out.size; simp; omega) hown1' hg1
  rw [hv]
  have HO1 := Lib.hid ho1
  have HB1 := Lib.hid hb1
  clear hv hown1 hown1' hg1 ho1 hb1
  go_wp2_with fail
  go_ret
  exact ⟨A2, c2, rfl, by rw [← C_app]; exact HO1.out, HB1.out⟩
end Go.Proofs.Ytnobfmdjnldfpaa
