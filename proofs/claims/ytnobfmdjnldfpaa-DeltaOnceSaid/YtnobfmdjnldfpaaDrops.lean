/-
  The walk of DeltaDrops. Each statement bears its own conditions.
-/
import Derived.Test.YtnobfmdjnldfpaaNexts
namespace Go.Proofs.Ytnobfmdjnldfpaa
open Go.RowKit
set_option linter.unusedVariables false
set_option linter.unusedSimpArgs false
/-- An argument that is a slice of numbers, read. -/
def IsRow (k : IntKind) (w : World) (a : Option Addr) (len cap : Nat) (zs : List Int) : Prop :=
  (a = none ∧ len = 0 ∧ cap = 0 ∧ zs = []) ∨
  ∃ x, a = some x ∧ len ≤ cap ∧ cap ≤ maxLen ∧ zs.length = cap ∧ (∀ i, i < zs.length → w.cell? (x.add i) = some (.int k (zs.getD i 0))) ∧ ∀ n ∈ zs, (Lit.int k n).wf = true
theorem ids_row {w : World} {a : Option Addr} {len cap : Nat} {zs : List Int} (h : IsRow .i64 w a len cap zs) : Reads w w.heap.size 1 a len (I (zs.take len)) ∧ (zs.take len).length = len ∧ len ≤ cap ∧ cap ≤ maxLen := by
  rcases h with ⟨rfl, rfl, rfl, rfl⟩ | ⟨x, rfl, h1, h2, h3, h4, h5⟩
  · exact ⟨Reads.none_, rfl, Nat.le_refl _, by unfold maxLen; omega⟩
  · have hl : (zs.take len).length = len := by rw [List.length_take]; omega
    refine ⟨⟨by simp [I]; omega, fun hn => ⟨x, rfl, ?_, fun j u hu => ?_⟩⟩, hl, h1, h2⟩
    · have := World.block_lt_of_cell? _ _ (h4 0 (by omega))
      rwa [block_of_add] at this
    · have hj : j < len := by have := (List.getElem?_eq_some_iff.1 hu).1; simp [I] at this; omega
      have e := h4 j (by omega)
      have e2 : u = .int .i64 (zs.getD j 0) := by
        have : (I (zs.take len))[j]? = some (.int .i64 (zs.getD j 0)) := by simp [I, List.getD_eq_getElem?_getD, List.getElem?_take, hj, List.getElem?_eq_getElem (show j < zs.length by omega)]
        rw [this] at hu; exact (Option.some.inj hu).symm
      rw [e2]; exact e
theorem take_one {l : List Int} {k : Nat} (h : k < l.length) : l.take (k + 1) = l.take k ++ [l.getD k 0] := by
  rw [List.take_add_one]; simp [List.getD_eq_getElem?_getD, List.getElem?_eq_getElem h]
theorem fst_getD (L : List (Int × Int)) (i : Nat) (h : i < L.length) : (L.map Prod.fst).getD i 0 = (L.getD i (0, 0)).1 := by
  simp [List.getD_eq_getElem?_getD, List.getElem?_eq_getElem h]
/-- The ids that are not among the others. -/
def keepO (O l : List Int) : List Int := l.filter (fun x => !decide (x ∈ O))
theorem keepO_app (O l : List Int) (x : Int) : keepO O (l ++ [x]) = keepO O l ++ (if x ∈ O then [] else [x]) := by
  unfold keepO
  rw [List.filter_append]
  by_cases h : x ∈ O <;> simp [h]
theorem keepO_len (O l : List Int) : (keepO O l).length ≤ l.length := List.length_filter_le _ _
def dels (L : List (Int × Int)) (O : List Int) : List (Int × Int) := O.foldl del L
theorem dels_app (L : List (Int × Int)) (O : List Int) (x : Int) : dels L (O ++ [x]) = del (dels L O) x := by simp [dels]
theorem dels_sub (L : List (Int × Int)) (O : List Int) : (dels L O).Sublist L := by
  induction O generalizing L with
  | nil => exact List.Sublist.refl _
  | cons o O ih => exact (ih (del L o)).trans (del_sub L o)
theorem dels_len (L : List (Int × Int)) (O : List Int) : (dels L O).length ≤ L.length := (dels_sub L O).length_le
theorem dels_dst {L : List (Int × Int)} (h : Dst L) (O : List Int) : Dst (dels L O) := List.Nodup.sublist ((dels_sub L O).map _) h
theorem dels_srt {L : List (Int × Int)} (h : Srt L) (O : List Int) : Srt (dels L O) := h.sublist (dels_sub L O)
theorem dels_bnd {L : List (Int × Int)} (h : Bnd L) (O : List Int) : Bnd (dels L O) := fun x hx => h x ((dels_sub L O).subset hx)
theorem del_filter {L : List (Int × Int)} (h : Dst L) (id : Int) : del L id = L.filter (fun x => !decide (x.1 = id)) := by
  rw [del_erase]
  unfold Dst at h
  induction L with
  | nil => rfl
  | cons x L ih =>
    rw [List.map_cons, List.nodup_cons] at h
    by_cases hx : x.1 = id
    · rw [List.eraseP_cons_of_pos (by simp [hx]), List.filter_cons_of_neg (by simp [hx]), List.filter_eq_self.2]
      intro y hy
      have : y.1 ≠ id := fun e => h.1 (by rw [hx, ← e]; exact List.mem_map_of_mem hy)
      simp [this]
    · rw [List.eraseP_cons_of_neg (by simp [hx]), List.filter_cons_of_pos (by simp [hx]), ih h.2]
theorem dels_filter {L : List (Int × Int)} (h : Dst L) (O : List Int) : dels L O = L.filter (fun x => !decide (x.1 ∈ O)) := by
  induction O generalizing L with
  | nil => exact (List.filter_eq_self.2 (by simp)).symm
  | cons o O ih =>
    show dels (del L o) O = _
    rw [ih (del_dst h o), del_filter h, List.filter_filter]
    congr 1
    funext x
    by_cases h1 : x.1 = o <;> by_cases h2 : x.1 ∈ O <;> simp [h1, h2]
theorem dels_fst {L : List (Int × Int)} (h : Dst L) (O : List Int) : (dels L O).map Prod.fst = keepO O (L.map Prod.fst) := by
  rw [dels_filter h]; unfold keepO; rw [List.filter_map]; rfl
theorem hasB_none {L : List (Int × Int)} {id : Int} (h : ∀ x ∈ L, x.1 ≠ id) : hasB L id = false := by
  unfold hasB
  rw [decide_eq_false_iff_not]
  intro hl
  have := List.findIdx_getElem (xs := L) (p := fun x : Int × Int => decide (x.1 = id)) (w := hl)
  exact h _ (List.getElem_mem _) (of_decide_eq_true this)
structure InRel (n1 : Nat) (zs : List Int) (id : Int) (w : World) (v iv : Value) (wr : World) : Prop where
  ex : ∃ k : Nat, k ≤ n1 ∧ v = .bool (decide (id ∈ zs.take k)) ∧ iv = .int .i64 (k : Int) ∧ Below w.heap.size w wr
structure OutRel (n : Nat) (L : List (Int × Int)) (zs : List Int) (w : World) (v iv : Value) (wr : World) : Prop where
  ex : ∃ (i : Nat) (A : Option Addr) (c m : Nat), i ≤ n ∧ iv = .int .i64 (i : Int) ∧ v = .slice A m c ∧ wr.ownsRow w.heap.size 3 1 (.slice A m c) m (I (keepO zs ((L.take i).map Prod.fst))) ∧ (keepO zs ((L.take i).map Prod.fst)).length = m ∧ Below w.heap.size w wr
structure DrRel (n1 g rb : Nat) (L : List (Int × Int)) (zs : List Int) (w : World) (iv : Value) (wr : World) : Prop where
  ex : ∃ k : Nat, k ≤ n1 ∧ iv = .int .i64 (k : Int) ∧ TF wr g rb (dels L (zs.take k)) ∧ Ch g rb w wr
set_option maxRecDepth 100000 in
set_option maxHeartbeats 4000000 in
theorem drops_core (a : Option Addr) (len cap : Nat) (a1 : Option Addr) (len1 cap1 : Nat) (zs : List Int) (w : World) (h0 : DeedRow w a len) (hlen : len ≤ maxLen) (hr : Reads w w.heap.size 1 a1 len1 (I zs)) (hzl : zs.length = len1) :
    Calls Try.prog 8 #[.slice a len cap, .slice a1 len1 cap1] w fun e w' => e = .returned (.bool true) ∧ Below w.heap.size w w' := by
  have SP := Lib.hid (speaks_any w)
  obtain ⟨i0, hi, hz0, hz1, hz2⟩ := info_of int_info
  have RZ := Lib.hid hr
  have HZL := Lib.hid hzl
  have H0 := Lib.hid h0
  clear hr hzl
  by_cases h40 : len ≤ 40
  · have h4I : decide ((40 : Int) < (len : Int)) = false := by rw [decide_eq_false_iff_not]; omega
    have HN : Hid (len ≤ 40) := h40
    clear h0 hlen h40
    by_cases h41 : len1 ≤ 40
    · have h5I : decide ((40 : Int) < (len1 : Int)) = false := by rw [decide_eq_false_iff_not]; omega
      have HN1 : Hid (len1 ≤ 40) := h41
      clear h41
      go_enter Try.func8, Try.ntmps8
      go_wp2_with fail
      refine SP.out.mono ?_
      rintro e w1 ⟨rfl, b1⟩
      have B1 := Lib.hid b1
      clear b1 SP
      go_wp2_with fail
      obtain ⟨g, hG⟩ : ∃ g, w1.heap.size = g := ⟨_, rfl⟩
      have he : ∀ (x : Nat) (w : World), (binOp .eql 24 (.pointer (some ⟨x, 0, none⟩)) (.pointer none)).run Try.prog w = .ok (.bool false) w := fun _ _ => rfl
      have NE := Lib.hid (new_any w1)
      have HG : Hid (w.heap.size ≤ g) := by unfold Hid; have := B1.out.size; omega
      rw [hG] at NE
      refine NE.out.mono ?_
      rintro e w0 ⟨rfl, h0, b0⟩
      rw [← hG] at b0
      have Z0 := Lib.hid h0
      have B0 := Lib.hid (B1.out.trans (b0.mono B1.out.size))
      clear h0 b0 NE hG
      go_wp2_with fail
      go_loopw [35] (fun i wr => FlRel len g w i wr) (fun i _ => 1001 - (intOf i).toNat)
      case atStart => exact ⟨⟨0, g, [], Nat.zero_le _, rfl, Z0.out, List.Pairwise.nil, List.nodup_nil, by intro x hx; simp at hx, Nat.le_refl _, B0.out, HG.out⟩⟩
      case round =>
        obtain ⟨⟨j, rb, L, hj, rfl, ht, hs, hd, hbn, hl, hb, hrb⟩⟩ := hrel
        have HT := Lib.hid ht
        have HS := Lib.hid hs
        have HD := Lib.hid hd
        have HBN := Lib.hid hbn
        have HLn := Lib.hid hl
        have HB := Lib.hid hb
        have HRB := Lib.hid hrb
        have HJ := Lib.hid hj
        have HL1 : Hid (L.length ≤ 1000) := by unfold Hid; have := HN.out; omega
        clear ht hs hd hbn hl hb hrb hj Z0 B0
        by_cases hlt : j < len
        · obtain ⟨b, off, Kf, Mf, Tf, rfl, hc⟩ := H0.out (by omega)
          obtain ⟨c0, c1, c2, _, htm⟩ := hc j hlt
          obtain ⟨kj, hkj⟩ : ∃ x, Kf j = x := ⟨_, rfl⟩
          obtain ⟨mj, hmj⟩ : ∃ x, Mf j = x := ⟨_, rfl⟩
          obtain ⟨tj, htj⟩ : ∃ x, Tf j = x := ⟨_, rfl⟩
          rw [hkj] at c0
          rw [hmj] at c1
          rw [htj] at c2 htm
          have HTM := Lib.hid htm
          have d0 := cell_later HB.out c0
          have d1 := cell_later HB.out c1
          have d2 := cell_later HB.out c2
          have hjI : (j : Int) < (len : Int) := by omega
          have hj2 : (j : Int) < 1000 := by have := HN.out; omega
          have HX : Hid (j < len) := hlt
          clear hc hkj hmj htj c0 c1 c2 hlt htm
          go_wp2_with fail
          have BA : Below wr.heap.size wr (wr.alloc (.cells #[.int .u8 kj, .int .i64 mj, .int .i64 tj] 28)) := (Below.refl _ _).alloc (Nat.le_refl _) _
          refine (set_any g rb mj tj L _ (HT.out.below BA) (del_srt HS.out mj) HL1.out).mono ?_
          rintro e w3 ⟨rb3, rfl, t3, r3, c3⟩
          have T3 := Lib.hid t3
          have R3 : Hid (w.heap.size ≤ rb3) := by
            unfold Hid; have := HRB.out; have := HB.out.size; simp at r3; omega
          have B3 := Lib.hid ((HB.out.trans (BA.mono HB.out.size)).trans (c3.below HG.out HRB.out (by have := HB.out.size; simp; omega)))
          clear t3 r3 c3 BA
          go_wp2_with fail
          go_roundw
          case rel =>
            have Q : FlRel len g w (.int .i64 ((j : Int) + 1)) w3 := ⟨⟨j + 1, rb3, setL L mj tj, HX.out, by go_num, T3.out, setL_srt HS.out _ _, setL_dst HD.out _ _, setL_bnd HBN.out HTM.out, by have := setL_len L mj tj; have := HLn.out; omega, B3.out, R3.out⟩⟩
            first | exact Q | ((repeat apply Exists.intro); exact ⟨Q, rfl⟩)
          case measure => have := HX.out; have := HN.out; simp [intOf]; omega
        · have hjI : ¬ (j : Int) < (len : Int) := by omega
          have HL4 : Hid (L.length ≤ 40) := by unfold Hid; have := HN.out; have := HLn.out; have := HJ.out; omega
          clear hlt
          go_wp2_with fail
          refine (tclone_any g rb L wr HT.out HL1.out).mono ?_
          rintro e w2 ⟨g', rb', rfl, hc2, hg', hrb', b2⟩
          have T2 := Lib.hid (HT.out.below b2)
          have C2 := Lib.hid hc2
          have N2 : Hid (g < wr.heap.size ∧ rb < wr.heap.size ∧ wr.heap.size ≤ g' ∧ wr.heap.size ≤ rb' ∧ g' < w2.heap.size ∧ rb' < w2.heap.size ∧ wr.heap.size ≤ w2.heap.size ∧ w.heap.size ≤ wr.heap.size) := ⟨HT.out.lt, HT.out.rlt, hg', hrb', hc2.lt, hc2.rlt, b2.size, HB.out.size⟩
          have B2 := Lib.hid (HB.out.trans (b2.mono HB.out.size))
          have HRB2 := Lib.hid HRB.out
          clear hc2 hg' hrb' b2 HB HT HLn HJ
          go_wp2_with fail
          have hL1000 : L.length ≤ 1000 := by have := HL4.out; omega
          refine (due_any g' rb' 9223372036854775807 L w2 C2.out HS.out hL1000).mono ?_
          rintro e w3 ⟨A3, c3, rfl, o3, t3, h3⟩
          rw [cnt_all HBN.out] at o3 ⊢
          rw [List.take_length] at o3
          obtain ⟨n, hn⟩ : ∃ n, L.length = n := ⟨_, rfl⟩
          have HNL := Lib.hid hn
          rw [hn] at o3 ⊢
          have HN40 : Hid (n ≤ 40) := by unfold Hid; have := HL4.out; omega
          have T3 : Hid (TF w3 g rb L) := T2.out.ch h3 (by have := N2.out; omega) (by have := N2.out; omega) (by have := N2.out; omega) (by have := N2.out; omega)
          have R3 := Lib.hid (Reads.of_own o3)
          have B3 := Lib.hid (B2.out.trans (h3.below (by have := N2.out; omega) (by have := N2.out; omega) B2.out.size))
          have N3 : Hid (g < w3.heap.size ∧ rb < w3.heap.size ∧ w.heap.size ≤ w3.heap.size) := by unfold Hid; have := N2.out; have := h3.size; omega
          have RZ3 : Hid (Reads w3 w.heap.size 1 a1 len1 (I zs)) := RZ.out.below B3.out
          clear hn o3 t3 h3 T2 C2 B2 hL1000
          go_wp2_with fail
          go_loopw [9, 53] (fun v iv wr => OutRel n L zs w3 v iv wr) (fun _ k => fun _ => 1001 - (intOf k).toNat)
          case atStart => exact ⟨⟨0, none, 0, 0, Nat.zero_le _, rfl, rfl, World.ownsRow_nil _ _ _ _, rfl, Below.refl _ _⟩⟩
          case round =>
            obtain ⟨⟨i, A, c, m, hi_, rfl, rfl, ho, hm, hb⟩⟩ := hrel
            obtain ⟨wo, hwo⟩ : ∃ wo, wo = wr := ⟨_, rfl⟩
            subst hwo
            have HI := Lib.hid hi_
            have HO := Lib.hid ho
            have HM := Lib.hid hm
            have HB := Lib.hid hb
            clear hi_ ho hm hb
            by_cases hlt : i < n
            · have hiI : (i : Int) < (n : Int) := by omega
              have hi40 : (i : Int) < 1000 := by have := HN40.out; omega
              have HX : Hid (i < n) := hlt
              obtain ⟨b, off, rfl, _, hIl, hc⟩ := place_i R3.out (by omega)
              have e0 := hc i hlt
              obtain ⟨id, hid⟩ : ∃ id, Hid ((L.map Prod.fst).getD i 0 = id) := ⟨_, rfl⟩
              rw [hid.out] at e0
              have d0 := cell_later HB.out e0
              clear hlt hc e0 hIl
              go_wp2_with fail
              go_loopw [12, 59] (fun v iv wx => InRel len1 zs id wo v iv wx) (fun _ k => fun _ => 1001 - (intOf k).toNat)
              case atStart => exact ⟨⟨0, Nat.zero_le _, by simp, rfl, Below.refl _ _⟩⟩
              case round =>
                obtain ⟨⟨k, hk, rfl, rfl, hbi⟩⟩ := hrel
                have HK := Lib.hid hk
                have HBI := Lib.hid hbi
                clear hk hbi
                by_cases hlt : k < len1
                · have hkI : (k : Int) < (len1 : Int) := by omega
                  have hk40 : (k : Int) < 1000 := by have := HN1.out; omega
                  have HKX : Hid (k < len1) := hlt
                  obtain ⟨b2, off2, rfl, _, _, hc⟩ := place_i RZ3.out (by omega)
                  have e0 := hc k hlt
                  obtain ⟨x, hx⟩ : ∃ x, Hid (zs.getD k 0 = x) := ⟨_, rfl⟩
                  rw [hx.out] at e0
                  have d1 := cell_later HBI.out (cell_later HB.out e0)
                  have HT : Hid (decide (id ∈ zs.take (k + 1)) = (decide (id ∈ zs.take k) || (x == id))) := by
                    unfold Hid
                    rw [take_one (by have := HZL.out; omega), hx.out]
                    by_cases h1 : id ∈ zs.take k
                    · simp [h1]
                    · by_cases h2 : x = id
                      · simp [h2]
                      · have h3 : ¬ id = x := fun h => h2 h.symm
                        simp [h1, h2, h3]
                  obtain ⟨bs, hbs⟩ : ∃ bs, decide (id ∈ zs.take k) = bs := ⟨_, rfl⟩
                  rw [hbs] at HT ⊢
                  clear hbs hc e0 hlt
                  cases bs with
                  | true =>
                    go_wp2_with fail
                    go_roundw
                    case rel =>
                      have Q : InRel len1 zs id wo (.bool true) (.int .i64 ((k : Int) + 1)) wr := ⟨⟨k + 1, HKX.out, by rw [HT.out]; simp, by go_num, HBI.out⟩⟩
                      first | exact Q | ((repeat apply Exists.intro); exact ⟨Q, rfl⟩)
                    case measure => have := HKX.out; have := HN1.out; simp [intOf]; omega
                  | false =>
                    go_wp2_with fail
                    go_roundw
                    case rel =>
                      have Q : InRel len1 zs id wo (.bool (x == id)) (.int .i64 ((k : Int) + 1)) wr := ⟨⟨k + 1, HKX.out, by rw [HT.out]; simp, by go_num, HBI.out⟩⟩
                      first | exact Q | ((repeat apply Exists.intro); exact ⟨Q, rfl⟩)
                    case measure => have := HKX.out; have := HN1.out; simp [intOf]; omega
                · have hkI : ¬ (k : Int) < (len1 : Int) := by omega
                  have hk1 : Hid (k = len1) := by unfold Hid; have := HK.out; omega
                  rw [show zs.take k = zs by rw [hk1.out, ← HZL.out, List.take_length]]
                  have HBW := Lib.hid (HB.out.trans (HBI.out.mono HB.out.size))
                  have HOW := Lib.hid (own_below HO.out HBI.out)
                  have HT : Hid (keepO zs ((L.take (i + 1)).map Prod.fst) = keepO zs ((L.take i).map Prod.fst) ++ (if id ∈ zs then [] else [id])) := by
                    unfold Hid
                    rw [take_map (by have := HNL.out; have := HX.out; omega), ← fst_getD L i (by have := HNL.out; have := HX.out; omega), hid.out, keepO_app]
                  obtain ⟨bs, hbs⟩ : ∃ bs, decide (id ∈ zs) = bs := ⟨_, rfl⟩
                  have HBS := Lib.hid hbs
                  rw [hbs]
                  clear hbs hlt
                  cases bs with
                  | true =>
                    rw [if_pos (of_decide_eq_true HBS.out), List.append_nil] at HT
                    go_wp2_with fail
                    go_roundw
                    case rel =>
                      have Q : OutRel n L zs w3 (.slice A m c) (.int .i64 ((i : Int) + 1)) wr := ⟨⟨i + 1, A, c, m, HX.out, by go_num, rfl, by rw [HT.out]; exact HOW.out, by rw [HT.out]; exact HM.out, HBW.out⟩⟩
                      first | exact Q | ((repeat apply Exists.intro); exact ⟨Q, rfl⟩)
                    case measure => have := HX.out; have := HN40.out; simp [intOf]; omega
                  | false =>
                    rw [if_neg (of_decide_eq_false HBS.out)] at HT
                    have HMl : Hid (m ≤ 40) := by
                      unfold Hid
                      have h1 := keepO_len zs ((L.take i).map Prod.fst)
                      rw [HM.out] at h1
                      have := HX.out; have := HN40.out
                      simp at h1; omega
                    go_wp2_with (at_builtin; refine wpList_append_any _ rfl (.tmp 72) (.tmp 74) _ rfl w3.heap.size 3 i0 _ 1 8 Try.underlying31 hi hz0 hz1 hz2 rfl (by omega) (.slice A m c) m (I (keepO zs ((L.take i).map Prod.fst))) rfl (own_below HOW.out ((Below.refl _ _).alloc (Nat.le_refl _) _)) (wr.heap.size + 1) (some ⟨wr.heap.size, 0, none⟩) 1 1 (I [id]) rfl (by simpa [I] using reads_newI wr (I [id]) 3) (I_one _) ?c2 ?c3 ?c4 ?_)
                    case c2 => have := HMl.out; unfold maxLen; omega
                    case c3 => have := HMl.out; omega
                    case c4 => have := HBW.out.size; simp; omega
                    intro v1 w9 hown1 hg1 _
                    have hown1' : w9.ownsRow w3.heap.size 3 1 v1 (m + 1) (I (keepO zs ((L.take i).map Prod.fst) ++ [id])) := by simpa [I] using hown1
                    rw [← HT.out] at hown1'
                    obtain ⟨A1, c1, hv, ho1, hb1⟩ := own_ofI (own_below HOW.out ((Below.refl _ _).alloc (Nat.le_refl _) _)) (HBW.out.alloc HBW.out.size _) (by have := HBW.out.size; simp; omega) hown1' hg1
                    rw [hv]
                    have HO1 := Lib.hid ho1
                    have HB1 := Lib.hid hb1
                    clear hv hown1 hown1' hg1 ho1 hb1
                    go_wp2_with fail
                    go_roundw
                    case rel =>
                      have Q : OutRel n L zs w3 (.slice A1 (m + 1) c1) (.int .i64 ((i : Int) + 1)) w9 := ⟨⟨i + 1, A1, c1, m + 1, HX.out, by go_num, rfl, HO1.out, by rw [HT.out, List.length_append, HM.out]; rfl, HB1.out⟩⟩
                      first | exact Q | ((repeat apply Exists.intro); exact ⟨Q, rfl⟩)
                    case measure => have := HX.out; have := HN40.out; simp [intOf]; omega
            · have hiI : ¬ (i : Int) < (n : Int) := by omega
              have hin : Hid (i = n) := by unfold Hid; have := HI.out; omega
              rw [hin.out, ← HNL.out, List.take_length] at HO HM
              have T4 := Lib.hid (T3.out.below HB.out)
              have B4 := Lib.hid (B3.out.trans (HB.out.mono B3.out.size))
              have N4 : Hid (w3.heap.size ≤ wo.heap.size) := HB.out.size
              have RZ4 : Hid (Reads wo w.heap.size 1 a1 len1 (I zs)) := RZ3.out.below (HB.out.mono B3.out.size)
              clear hlt T3 B3 RZ3 HB
              go_wp2_with fail
              go_loopw [79] (fun iv wx => DrRel len1 g rb L zs wo iv wx) (fun k => fun _ => 1001 - (intOf k).toNat)
              case atStart => exact ⟨⟨0, Nat.zero_le _, rfl, by simpa [dels] using T4.out, Ch.refl _ _ _⟩⟩
              case round =>
                obtain ⟨⟨k, hk, rfl, ht, hc⟩⟩ := hrel
                have HK := Lib.hid hk
                have HT := Lib.hid ht
                have HC := Lib.hid hc
                clear hk ht hc
                obtain ⟨D, hD⟩ : ∃ D, dels L (zs.take k) = D := ⟨_, rfl⟩
                have HD2 := Lib.hid hD
                have HDl : Hid (D.length ≤ 1000) := by unfold Hid; rw [← hD]; have := dels_len L (zs.take k); have := HL4.out; omega
                have HDd : Hid (Dst D) := hD ▸ dels_dst HD.out (zs.take k)
                rw [hD] at HT
                clear hD
                by_cases hlt : k < len1
                · have hkI : (k : Int) < (len1 : Int) := by omega
                  have hk40 : (k : Int) < 1000 := by have := HN1.out; omega
                  have HKX : Hid (k < len1) := hlt
                  obtain ⟨b2, off2, rfl, hbl, _, hc⟩ := place_i RZ4.out (by omega)
                  have e0 := hc k hlt
                  obtain ⟨x, hx⟩ : ∃ x, Hid (zs.getD k 0 = x) := ⟨_, rfl⟩
                  rw [hx.out] at e0
                  have d1 : wr.cell? ⟨b2, off2 + k, none⟩ = some (.int .i64 x) := (World.cell?_of_block (a := ⟨b2, off2 + k, none⟩) (HC.out.block b2 (World.block_lt_of_cell? _ _ e0) (by have := HG.out; omega) (by have := HRB2.out; omega))).trans e0
                  clear hc e0 hlt
                  go_wp2_with fail
                  refine (at_any g rb x D wr HT.out HDl.out).mono ?_
                  rintro e w5 ⟨rfl, b5⟩
                  have T5 := Lib.hid (HT.out.below b5)
                  have C5 := Lib.hid (HC.out.trans (Ch.of_below (g := g) (rb := rb) b5) (.inl rfl))
                  clear b5 HT HC
                  go_wp2_with fail
                  refine (drop_any g rb x D w5 T5.out HDl.out).mono ?_
                  rintro e w6 ⟨rfl, t6, c6⟩
                  have T6 := Lib.hid t6
                  have C6 := Lib.hid (C5.out.trans c6 (.inl rfl))
                  obtain ⟨hs_, hhs⟩ : ∃ b, hasB D x = b := ⟨_, rfl⟩
                  rw [hhs]
                  clear t6 c6 T5 C5 hhs
                  go_wp2_with fail
                  refine (drop_any g rb x (del D x) w6 T6.out (Nat.le_trans (del_len _ _) HDl.out)).mono ?_
                  rintro e w7 ⟨rfl, t7, c7⟩
                  rw [del_none (del_out HDd.out x)] at t7
                  rw [hasB_none (del_out HDd.out x)]
                  have T7 : Hid (TF w7 g rb (dels L (zs.take (k + 1)))) := by
                    unfold Hid; rw [take_one (by have := HZL.out; have := HKX.out; omega), dels_app, HD2.out, hx.out]; exact t7
                  have C7 := Lib.hid (C6.out.trans c7 (.inl rfl))
                  clear t7 c7 T6 C6
                  go_wp2_with fail
                  go_roundw
                  case rel =>
                    have Q : DrRel len1 g rb L zs wo (.int .i64 ((k : Int) + 1)) w7 := ⟨⟨k + 1, HKX.out, by go_num, T7.out, C7.out⟩⟩
                    first | exact Q | ((repeat apply Exists.intro); exact ⟨Q, rfl⟩)
                  case measure => have := HKX.out; have := HN1.out; simp [intOf]; omega
                · have hkI : ¬ (k : Int) < (len1 : Int) := by omega
                  have hk1 : Hid (k = len1) := by unfold Hid; have := HK.out; omega
                  rw [hk1.out, ← HZL.out, List.take_length] at HD2
                  have HE : Hid (D.map Prod.fst = keepO zs (L.map Prod.fst)) := by unfold Hid; rw [← HD2.out]; exact dels_fst HD.out zs
                  have HEl : Hid (D.length = m) := by unfold Hid; rw [← HM.out, ← HE.out, List.length_map]
                  have HDs : Hid (Srt D) := by unfold Hid; rw [← HD2.out]; exact dels_srt HS.out zs
                  have HDb : Hid (Bnd D) := by unfold Hid; rw [← HD2.out]; exact dels_bnd HBN.out zs
                  have HBE : Hid (Below w.heap.size w wr) := B4.out.trans (HC.out.below HG.out HRB2.out (by have := N3.out; have := N4.out; omega))
                  have HOE : Hid (wr.ownsRow w3.heap.size 3 1 (.slice A m c) m (I (D.map Prod.fst))) := by
                    unfold Hid; rw [HE.out]
                    exact own_keepI HO.out (Nat.le_refl _) fun b b1 b2 => HC.out.block b b2 (by have := N3.out; omega) (by have := N3.out; omega)
                  have N5 : Hid (w3.heap.size ≤ wr.heap.size) := by unfold Hid; have := N4.out; have := HC.out.size; omega
                  have HMb : Hid (m ≤ 1000) := by unfold Hid; rw [← HEl.out]; exact HDl.out
                  clear hlt HC HO HM HD2 B4 T4
                  go_wp2_with fail
                  refine (len_any g rb D wr HT.out).mono ?_
                  rintro e w5 ⟨rfl, h5⟩
                  have h5 := h5.symm
                  subst h5
                  rw [HEl.out]
                  go_wp2_with fail
                  refine (due_any g rb 9223372036854775807 D wr HT.out HDs.out HDl.out).mono ?_
                  rintro e w5 ⟨A5, c5, rfl, o5, t5, h5⟩
                  rw [cnt_all HDb.out] at o5 ⊢
                  rw [List.take_length] at o5
                  rw [HEl.out] at o5 ⊢
                  have R5 := Lib.hid (Reads.of_own o5)
                  have O5 : Hid (w5.ownsRow w3.heap.size 3 1 (.slice A m c) m (I (D.map Prod.fst))) :=
                    own_keepI HOE.out (Nat.le_refl _) fun b b1 b2 => h5.block b b2 (by have := N3.out; omega) (by have := N3.out; omega)
                  have B5 := Lib.hid (HBE.out.trans (h5.below HG.out HRB2.out HBE.out.size))
                  clear o5 t5 h5 HT HOE HBE
                  go_wp2_with fail
                  refine (isame_true A5 A m c5 c (D.map Prod.fst) w5 w5.heap.size w5.heap.size R5.out (Reads.of_own O5.out) HMb.out (Nat.le_refl _) (Nat.le_refl _)).mono ?_
                  rintro e w6 ⟨rfl, b6⟩
                  have B6 := Lib.hid (B5.out.trans (b6.mono B5.out.size))
                  clear b6
                  go_wp2_with fail
                  go_ret
                  exact ⟨rfl, B6.out⟩
    · have h5I : decide ((40 : Int) < (len1 : Int)) = true := by rw [decide_eq_true_iff]; omega
      clear h41
      go_enter Try.func8, Try.ntmps8
      go_wp2_with fail
      refine SP.out.mono ?_
      rintro e w1 ⟨rfl, b1⟩
      have SP2 := Lib.hid (speaks_any w1)
      have B1 := Lib.hid b1
      clear b1 SP
      go_wp2_with fail
      refine SP2.out.mono ?_
      rintro e w2 ⟨rfl, b2⟩
      have B2 := Lib.hid (B1.out.trans (b2.mono B1.out.size))
      clear b2 SP2
      go_wp2_with fail
      go_ret
      exact ⟨rfl, B2.out⟩
  · have h4I : decide ((40 : Int) < (len : Int)) = true := by rw [decide_eq_true_iff]; omega
    clear h0 hlen h40
    go_enter Try.func8, Try.ntmps8
    go_wp2_with fail
    refine SP.out.mono ?_
    rintro e w1 ⟨rfl, b1⟩
    have SP2 := Lib.hid (speaks_any w1)
    have B1 := Lib.hid b1
    clear b1 SP
    go_wp2_with fail
    refine SP2.out.mono ?_
    rintro e w2 ⟨rfl, b2⟩
    have B2 := Lib.hid (B1.out.trans (b2.mono B1.out.size))
    clear b2 SP2
    go_wp2_with fail
    go_ret
    exact ⟨rfl, B2.out⟩
theorem drops_walk (a : Option Addr) (len cap : Nat) (a1 : Option Addr) (len1 cap1 : Nat) (zs : List Int) (w : World) (h0 : DeedRow w a len) (hlen : len ≤ maxLen) (h1 : IsRow .i64 w a1 len1 cap1 zs) :
    Calls Try.prog 8 #[.slice a len cap, .slice a1 len1 cap1] w fun e w' => e = .returned (.bool true) ∧ Below w.heap.size w w' :=
  drops_core a len cap a1 len1 cap1 _ w h0 hlen (ids_row h1).1 (ids_row h1).2.1
end Go.Proofs.Ytnobfmdjnldfpaa
