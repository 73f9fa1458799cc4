/-
  The reference's Due. Each statement bears its own conditions.
-/
import Derived.Test.YtnobfmdjnldfpaaModel
namespace Go.Proofs.Ytnobfmdjnldfpaa
open Go.RowKit
set_option linter.unusedVariables false
set_option linter.unusedSimpArgs false
def dueF (now : Int) (L : List (Int × Int)) : List (Int × Int) := L.filter (fun x => decide (x.2 ≤ now))
def lateF (now : Int) (L : List (Int × Int)) : List (Int × Int) := L.filter (fun x => decide (now < x.2))
theorem dueF_app (now : Int) (L : List (Int × Int)) (x : Int × Int) : dueF now (L ++ [x]) = dueF now L ++ (if x.2 ≤ now then [x] else []) := by
  unfold dueF; rw [List.filter_append]
  by_cases h : x.2 ≤ now <;> simp [h]
theorem lateF_app (now : Int) (L : List (Int × Int)) (x : Int × Int) : lateF now (L ++ [x]) = lateF now L ++ (if now < x.2 then [x] else []) := by
  unfold lateF; rw [List.filter_append]
  by_cases h : now < x.2 <;> simp [h]
theorem dueF_len (now : Int) (L : List (Int × Int)) : (dueF now L).length ≤ L.length := List.length_filter_le _ _
theorem lateF_len (now : Int) (L : List (Int × Int)) : (lateF now L).length ≤ L.length := List.length_filter_le _ _
theorem some_of {w : World} {B : Nat} {e : TypeId} {size n c : Nat} {A : Option Addr} {xs : List Value} (h : w.ownsRow B e size (.slice A n c) n xs) (hn : 0 < n) : ∃ q, A = some ⟨q, 0, none⟩ := by
  rcases h.2 with ⟨h1, h2⟩ | ⟨q5, _, _, h1, _⟩
  · omega
  · injection h1 with h1
    exact ⟨q5, h1⟩
theorem own_at {w w' : World} {B q : Nat} {e : TypeId} {size n c : Nat} {xs : List Value} (h : w.ownsRow B e size (.slice (some ⟨q, 0, none⟩) n c) n xs) (hq : w'.heap[q]? = w.heap[q]?) : w'.ownsRow B e size (.slice (some ⟨q, 0, none⟩) n c) n xs := by
  refine ⟨h.1, ?_⟩
  rcases h.2 with ⟨h1, _⟩ | ⟨g, cap, cur, hv, hbg, hg, r⟩
  · cases h1
  · refine .inr ⟨g, cap, cur, hv, hbg, ?_, r⟩
    injection hv with hv
    injection hv with hv
    injection hv with hv
    rw [← hv] at hg ⊢
    rw [hq]; exact hg
structure D1Rel (n b1 : Nat) (L : List (Int × Int)) (now : Int) (w1 : World) (v iv : Value) (wr : World) : Prop where
  ex : ∃ (j q c k : Nat), j ≤ n ∧ iv = .int .i64 (j : Int) ∧ v = .slice (some ⟨q, 0, none⟩) k c ∧ wr.ownsRow b1 3 1 (.slice (some ⟨q, 0, none⟩) k c) k (I ((dueF now (L.take j)).map Prod.fst)) ∧ (dueF now (L.take j)).length = k ∧ Past b1 w1 wr ∧ (q = b1 ∨ w1.heap.size ≤ q)
structure D2Rel (n : Nat) (m : List (Int × Int)) (now : Int) (q2 k2 c2 : Nat) (ids : List Value) (w : World) (v iv : Value) (wr : World) : Prop where
  ex : ∃ (j q c k : Nat), j ≤ n ∧ iv = .int .i64 (j : Int) ∧ v = .slice (some ⟨q, 0, none⟩) k c ∧ wr.ownsRow w.heap.size 66 2 (.slice (some ⟨q, 0, none⟩) k c) k (C (lateF now (m.take j))) ∧ (lateF now (m.take j)).length = k ∧ wr.ownsRow w.heap.size 3 1 (.slice (some ⟨q2, 0, none⟩) k2 c2) k2 ids ∧ q ≠ q2 ∧ Below w.heap.size w wr
set_option maxRecDepth 100000 in
set_option maxHeartbeats 2000000 in
theorem rdue_any (A : Option Addr) (n c : Nat) (now : Int) (m : List (Int × Int)) (w : World) (B : Nat) (h : Reads w B 2 A n (C m)) (hm : m.length = n) (hn : n ≤ 1000) (hB : B ≤ w.heap.size) :
    Calls Try.prog 18 #[.slice A n c, .int .i64 now] w fun e w' => ∃ A1 c1 A2 c2, e = .returned (.tuple #[.slice A1 (lateF now m).length c1, .slice A2 (dueF now (ord m)).length c2]) ∧ w'.ownsRow w.heap.size 66 2 (.slice A1 (lateF now m).length c1) (lateF now m).length (C (lateF now m)) ∧ w'.ownsRow w.heap.size 3 1 (.slice A2 (dueF now (ord m)).length c2) (dueF now (ord m)).length (I ((dueF now (ord m)).map Prod.fst)) ∧ Below w.heap.size w w' := by
  obtain ⟨i0, hi, hz0, hz1, hz2⟩ := info_of pair_info
  obtain ⟨i1, hi1, hy0, hy1, hy2⟩ := info_of int_info
  have HLn : Hid ((ord m).length = n) := by unfold Hid; rw [ord_len, hm]
  obtain ⟨L, hL⟩ : ∃ L, ord m = L := ⟨_, rfl⟩
  have HO := Lib.hid hL
  rw [hL] at HLn ⊢
  have HR := Lib.hid h
  have HM := Lib.hid hm
  have HN := Lib.hid hn
  have HBs := Lib.hid hB
  clear h hm hn hB hL
  go_enter Try.func18, Try.ntmps18
  go_wp2_with fail
  obtain ⟨wA, hwA⟩ : ∃ wA, (w.alloc (.cells #[] 66)).alloc (.cells #[] 3) = wA := ⟨_, rfl⟩
  have hsA : wA.heap.size = w.heap.size + 2 := by rw [← hwA]; simp
  have HSA := Lib.hid hsA
  have BA : Hid (Below w.heap.size w wA) := by unfold Hid; rw [← hwA]; exact ((Below.refl _ _).alloc (Nat.le_refl _) _).alloc (by simp) _
  have OL : Hid (wA.ownsRow w.heap.size 66 2 (.slice (some ⟨w.heap.size, 0, none⟩) 0 0) 0 (C [])) := by
    unfold Hid; rw [← hwA]
    exact own_below (row_newP w.heap.size w (Nat.le_refl _)) ((Below.refl _ _).alloc (Nat.le_refl _) _)
  have OI : Hid (wA.ownsRow (w.heap.size + 1) 3 1 (.slice (some ⟨w.heap.size + 1, 0, none⟩) 0 0) 0 (I [])) := by
    unfold Hid; rw [← hwA]
    exact ⟨rfl, .inr ⟨w.heap.size + 1, 0, #[], rfl, Nat.le_refl _, by have := heap_alloc_new (w.alloc (.cells #[] 66)) (.cells #[] 3); simpa using this, Nat.le_refl _, by unfold maxLen; omega, rfl, rfl⟩⟩
  have RA : Hid (Reads wA B 2 A n (C m)) := HR.out.below (BA.out.mono HBs.out)
  rw [hwA]
  clear hwA hsA
  refine (order_any A n c m wA B RA.out HM.out HN.out (by have := HSA.out; have := HBs.out; omega)).mono ?_
  rintro e w1 ⟨A1, c1, rfl, o1, b1⟩
  rw [HO.out] at o1
  have RL := Lib.hid (Reads.of_own o1)
  have O1 := Lib.hid o1
  have OL1 := Lib.hid (own_below OL.out b1)
  have OI1 := Lib.hid (own_below OI.out b1)
  have B1 : Hid (Below w.heap.size w w1) := BA.out.trans (b1.mono BA.out.size)
  have S1 : Hid (w.heap.size + 2 ≤ w1.heap.size) := by unfold Hid; rw [← HSA.out]; exact b1.size
  clear o1 b1 OL OI RA BA
  go_wp2_with fail
  go_loopw [7, 9] (fun v i wr => D1Rel n (w.heap.size + 1) L now w1 v i wr) (fun _ i => fun _ => 1001 - (intOf i).toNat)
  case atStart => exact ⟨⟨0, w.heap.size + 1, 0, 0, Nat.zero_le _, rfl, rfl, OI1.out, rfl, Past.refl _ _, .inl rfl⟩⟩
  case round =>
    obtain ⟨⟨j, q, c', k, hj, rfl, rfl, ho, hk, hb, hq⟩⟩ := hrel
    obtain ⟨wo, hwo⟩ : ∃ wo, wo = wr := ⟨_, rfl⟩
    subst hwo
    have HB := Lib.hid hb
    have HOI := Lib.hid ho
    have HK := Lib.hid hk
    have HJ := Lib.hid hj
    have HQ := Lib.hid hq
    clear hb ho hk OI1 hj hq
    by_cases hlt : j < n
    · obtain ⟨b, off, rfl, hbl, _, hc⟩ := place_p RL.out (by omega)
      obtain ⟨e0, e1⟩ := hc j hlt
      obtain ⟨x, hx⟩ : ∃ x, Hid ((L.getD j (0, 0)).1 = x) := ⟨_, rfl⟩
      obtain ⟨y, hy⟩ : ∃ x, Hid ((L.getD j (0, 0)).2 = x) := ⟨_, rfl⟩
      rw [hx.out] at e0
      rw [hy.out] at e1
      have hbb := HB.out.block b hbl (by have := (O1.out.lt b (by rfl)).1; have := HSA.out; omega)
      have d0 := (World.cell?_of_block (a := ⟨b, off + j * 2, none⟩) hbb).trans e0
      have d1 := (World.cell?_of_block (a := ⟨b, off + j * 2 + 1, none⟩) hbb).trans e1
      have hjI : (j : Int) < (n : Int) := by omega
      have hj2 : (j : Int) < 1000 := by have := HN.out; omega
      have HX : Hid (j < n) := hlt
      have HT : Hid (dueF now (L.take (j + 1)) = dueF now (L.take j) ++ (if y ≤ now then [(x, y)] else [])) := by
        unfold Hid
        rw [take_getD (by rw [HLn.out]; exact HX.out), dueF_app, hy.out, show L.getD j (0, 0) = (x, y) from Prod.ext hx.out hy.out]
      have HMl : Hid (k ≤ 1000) := by
        unfold Hid
        have h1 := dueF_len now (L.take j)
        rw [HK.out] at h1
        have := HX.out; have := HN.out
        simp at h1; omega
      clear hc e0 e1 hlt hbb hbl
      by_cases he : y ≤ now
      · rw [if_pos he] at HT
        have heb : decide (y ≤ now) = true := decide_eq_true he
        clear he
        go_wp2_with (at_builtin; refine wpList_append_any _ rfl (.tmp 28) (.tmp 34) _ rfl (w.heap.size + 1) 3 i1 _ 1 8 Try.underlying31 hi1 hy0 hy1 hy2 rfl (by omega) (.slice (some ⟨q, 0, none⟩) k c') k (I ((dueF now (L.take j)).map Prod.fst)) rfl (own_below HOI.out ((Below.refl _ _).alloc (Nat.le_refl _) _)) (wo.heap.size + 1) (some ⟨wo.heap.size, 0, none⟩) 1 1 (I [x]) rfl (by simpa [I] using reads_newI wo (I [x]) 3) (I_one _) ?c2 ?c3 ?c4 ?_)
        case c2 => have := HMl.out; unfold maxLen; omega
        case c3 => have := HMl.out; omega
        case c4 => have := HB.out.size; have := S1.out; simp; omega
        intro v1 w9 hown1 hg1 hor
        have hown1' : w9.ownsRow (w.heap.size + 1) 3 1 v1 (k + 1) (I ((dueF now (L.take j) ++ [(x, y)]).map Prod.fst)) := by simpa [I] using hown1
        rw [← HT.out] at hown1'
        obtain ⟨A5, c5, hv⟩ := slice_form hown1'
        rw [hv] at hown1' hor
        obtain ⟨q5, rfl⟩ := some_of hown1' (by omega)
        rw [hv]
        have HQ5 : Hid (q5 = w.heap.size + 1 ∨ w1.heap.size ≤ q5) := by
          unfold Hid
          have := HQ.out
          have h6 := HB.out.size
          rcases hor with h | h
          · have h' : some q5 = some q := h
            injection h' with h'
            omega
          · have h' : some q5 = some (wo.heap.size + 1) := h
            injection h' with h'
            omega
        have HP5 : Hid (Past (w.heap.size + 1) w1 w9) := by
          have h6 := HB.out.size
          refine ⟨hg1.os.trans HB.out.os, hg1.tape.trans HB.out.tape, hg1.output.trans HB.out.output, by have := hg1.size; simp at this; omega, fun i h1 h2 => ?_⟩
          have hqi : some i ≠ (Value.slice (some ⟨q, 0, none⟩) k c').ownBlock := fun h => by
            have h' : some i = some q := h
            injection h' with h'
            have := HQ.out; omega
          rw [hg1.block i (by simp; omega) hqi, ← HB.out.block i h1 h2]
          exact ((Below.refl wo.heap.size wo).alloc (Nat.le_refl _) (.cells #[.int .i64 x] 3)).block i (by omega)
        have HO5 := Lib.hid hown1'
        clear hv hown1 hown1' hg1 hor
        go_wp2_with fail
        go_roundw
        case rel =>
          have Q : D1Rel n (w.heap.size + 1) L now w1 (.slice (some ⟨q5, 0, none⟩) (k + 1) c5) (.int .i64 ((j : Int) + 1)) w9 := ⟨⟨j + 1, q5, c5, k + 1, HX.out, by go_num, rfl, HO5.out, by rw [HT.out, List.length_append, HK.out]; rfl, HP5.out, HQ5.out⟩⟩
          first | exact Q | ((repeat apply Exists.intro); exact ⟨Q, rfl⟩)
        case measure => have := HX.out; have := HN.out; simp [intOf]; omega
      · rw [if_neg he, List.append_nil] at HT
        have heb : decide (y ≤ now) = false := decide_eq_false he
        clear he
        go_wp2_with fail
        go_roundw
        case rel =>
          have Q : D1Rel n (w.heap.size + 1) L now w1 (.slice (some ⟨q, 0, none⟩) k c') (.int .i64 ((j : Int) + 1)) wo := ⟨⟨j + 1, q, c', k, HX.out, by go_num, rfl, by rw [HT.out]; exact HOI.out, by rw [HT.out]; exact HK.out, HB.out, HQ.out⟩⟩
          first | exact Q | ((repeat apply Exists.intro); exact ⟨Q, rfl⟩)
        case measure => have := HX.out; have := HN.out; simp [intOf]; omega
    · have hjI : ¬ (j : Int) < (n : Int) := by omega
      have hjn : j = n := by have := HJ.out; omega
      rw [hjn, ← HLn.out, List.take_length] at HOI HK
      have OLo : Hid (wo.ownsRow w.heap.size 66 2 (.slice (some ⟨w.heap.size, 0, none⟩) 0 0) 0 (C [])) := own_at OL1.out (HB.out.block w.heap.size (by have := S1.out; omega) (by omega))
      have OIo : Hid (wo.ownsRow w.heap.size 3 1 (.slice (some ⟨q, 0, none⟩) k c') k (I ((dueF now L).map Prod.fst))) := own_keepI HOI.out (by omega) (fun _ _ _ => rfl)
      have Bo : Hid (Below w.heap.size w wo) := B1.out.trans (HB.out.below (by omega) (by have := S1.out; omega))
      have HQo : Hid (w.heap.size ≠ q) := by unfold Hid; have := HQ.out; have := S1.out; omega
      clear hlt hjn HOI HB OL1 B1 O1 RL HJ HQ
      go_wp2_with fail
      go_loopw [6, 10] (fun v i wr => D2Rel n m now q k c' (I ((dueF now L).map Prod.fst)) w v i wr) (fun _ i => fun _ => 1001 - (intOf i).toNat)
      case atStart => exact ⟨⟨0, w.heap.size, 0, 0, Nat.zero_le _, rfl, rfl, OLo.out, rfl, OIo.out, HQo.out, Bo.out⟩⟩
      case round =>
        obtain ⟨⟨j2, q1, d, l, hj2, rfl, rfl, ho, hl, hoi, hne, hb⟩⟩ := hrel
        have HO1 := Lib.hid ho
        have HL1 := Lib.hid hl
        have HOI := Lib.hid hoi
        have HNE := Lib.hid hne
        have HB := Lib.hid hb
        have HJ := Lib.hid hj2
        clear ho hl hoi hne hb hj2 OLo OIo Bo HQo
        by_cases hlt : j2 < n
        · obtain ⟨b, off, rfl, hbl, _, hc⟩ := place_p HR.out (by omega)
          obtain ⟨e0, e1⟩ := hc j2 hlt
          obtain ⟨x, hx⟩ : ∃ x, Hid ((m.getD j2 (0, 0)).1 = x) := ⟨_, rfl⟩
          obtain ⟨y, hy⟩ : ∃ x, Hid ((m.getD j2 (0, 0)).2 = x) := ⟨_, rfl⟩
          rw [hx.out] at e0
          rw [hy.out] at e1
          have d0 := cell_later HB.out e0
          have d1 := cell_later HB.out e1
          have hjI2 : (j2 : Int) < (n : Int) := by omega
          have hj3 : (j2 : Int) < 1000 := by have := HN.out; omega
          have HX : Hid (j2 < n) := hlt
          have HT : Hid (lateF now (m.take (j2 + 1)) = lateF now (m.take j2) ++ (if now < y then [(x, y)] else [])) := by
            unfold Hid
            rw [take_getD (by rw [HM.out]; exact HX.out), lateF_app, hy.out, show m.getD j2 (0, 0) = (x, y) from Prod.ext hx.out hy.out]
          have HMl : Hid (l ≤ 1000) := by
            unfold Hid
            have h1 := lateF_len now (m.take j2)
            rw [HL1.out] at h1
            have := HX.out; have := HN.out
            simp at h1; omega
          clear hc e0 e1 hlt hbl
          by_cases he : now < y
          · rw [if_pos he] at HT
            have heb : decide (now < y) = true := decide_eq_true he
            clear he
            go_wp2_with (at_builtin; refine wpList_append_any _ rfl (.tmp 49) (.tmp 54) _ rfl w.heap.size 66 i0 _ 2 16 Try.underlying26 hi hz0 hz1 hz2 rfl (by omega) (.slice (some ⟨q1, 0, none⟩) l d) l (C (lateF now (m.take j2))) rfl (own_below HO1.out ((Below.refl _ _).alloc (Nat.le_refl _) _)) (wr.heap.size + 1) (some ⟨wr.heap.size, 0, none⟩) 1 1 (C [(x, y)]) rfl (reads_newP wr x y) (C_one _) ?d2 ?d3 ?d4 ?_)
            case d2 => have := HMl.out; unfold maxLen; omega
            case d3 => have := HMl.out; omega
            case d4 => have := HB.out.size; simp; omega
            intro v1 w9 hown1 hg1 hor
            have hown1' : w9.ownsRow w.heap.size 66 2 v1 (l + 1) (C (lateF now (m.take j2) ++ [(x, y)])) := by rw [C_app]; exact hown1
            rw [← HT.out] at hown1'
            obtain ⟨A5, c5, hv, ho1, hb1⟩ := own_ofP (own_below HO1.out ((Below.refl _ _).alloc (Nat.le_refl _) _)) (HB.out.alloc HB.out.size _) (by have := HB.out.size; simp; omega) hown1' hg1
            rw [hv] at hor
            obtain ⟨q5, rfl⟩ := some_of ho1 (by omega)
            rw [hv]
            have hq2 := (HOI.out.lt q (by rfl)).2
            have HQ5 : Hid (q5 ≠ q) := by
              unfold Hid
              have := HNE.out
              rcases hor with h | h
              · have h' : some q5 = some q1 := h
                injection h' with h'
                omega
              · have h' : some q5 = some (wr.heap.size + 1) := h
                injection h' with h'
                omega
            have HOI5 : Hid (w9.ownsRow w.heap.size 3 1 (.slice (some ⟨q, 0, none⟩) k c') k (I ((dueF now L).map Prod.fst))) := by
              refine own_at HOI.out ?_
              have hqi : some q ≠ (Value.slice (some ⟨q1, 0, none⟩) l d).ownBlock := fun h => by
                have h' : some q = some q1 := h
                injection h' with h'
                exact HNE.out h'.symm
              rw [hg1.block q (by simp; omega) hqi]
              exact ((Below.refl wr.heap.size wr).alloc (Nat.le_refl _) (.cells #[.int .i64 x, .int .i64 y] 66)).block q hq2
            have HO5 := Lib.hid ho1
            have HB5 := Lib.hid hb1
            clear hv hown1 hown1' hg1 hor ho1 hb1 hq2
            go_wp2_with fail
            go_roundw
            case rel =>
              have Q : D2Rel n m now q k c' (I ((dueF now L).map Prod.fst)) w (.slice (some ⟨q5, 0, none⟩) (l + 1) c5) (.int .i64 ((j2 : Int) + 1)) w9 := ⟨⟨j2 + 1, q5, c5, l + 1, HX.out, by go_num, rfl, HO5.out, by rw [HT.out, List.length_append, HL1.out]; rfl, HOI5.out, HQ5.out, HB5.out⟩⟩
              first | exact Q | ((repeat apply Exists.intro); exact ⟨Q, rfl⟩)
            case measure => have := HX.out; have := HN.out; simp [intOf]; omega
          · rw [if_neg he, List.append_nil] at HT
            have heb : decide (now < y) = false := decide_eq_false he
            clear he
            go_wp2_with fail
            go_roundw
            case rel =>
              have Q : D2Rel n m now q k c' (I ((dueF now L).map Prod.fst)) w (.slice (some ⟨q1, 0, none⟩) l d) (.int .i64 ((j2 : Int) + 1)) wr := ⟨⟨j2 + 1, q1, d, l, HX.out, by go_num, rfl, by rw [HT.out]; exact HO1.out, by rw [HT.out]; exact HL1.out, HOI.out, HNE.out, HB.out⟩⟩
              first | exact Q | ((repeat apply Exists.intro); exact ⟨Q, rfl⟩)
            case measure => have := HX.out; have := HN.out; simp [intOf]; omega
        · have hjI2 : ¬ (j2 : Int) < (n : Int) := by omega
          have hjn : j2 = n := by have := HJ.out; omega
          rw [hjn, ← HM.out, List.take_length] at HO1 HL1
          clear hlt hjn
          go_wp2_with fail
          go_ret2
          rw [HL1.out, HK.out]
          exact ⟨_, d, _, c', rfl, HO1.out, HOI.out, HB.out⟩
end Go.Proofs.Ytnobfmdjnldfpaa
