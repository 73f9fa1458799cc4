/-
  SpanShares, the walk: for any list of uint32s and any uint16 the Go text answers true, and writes nothing that was there. No conditions but that the numbers fit their types.
-/
import Derived.Test.YthcoldehpaambaaWords
namespace Go.Proofs.Ythcoldehpaambaa
open Go.RowKit
set_option linter.unusedSimpArgs false

theorem int_info : (Try.prog.info? 3).map (fun i => (i.zero, i.size, i.bytes)) = some (some (.int .i64 0), 1, 8) := by kernel_rfl

theorem reads_one (w : World) (v : Value) (e : TypeId) : Reads (w.alloc (.cells #[v] e)) (w.heap.size + 1) 1 (some ⟨w.heap.size, 0, none⟩) 1 [v] :=
  ⟨rfl, fun _ => ⟨_, rfl, by simp, fun j u hu => by
    match j, hu with
    | 0, hu => simp at hu; subst hu; simp [Addr.add]⟩⟩

theorem gl_le {zs : List Int} {B : Nat} (h : ∀ i, i < zs.length → (zs.getD i 0).natAbs ≤ B) : gl zs ≤ B := by
  have key : ∀ (zs : List Int) (a : Nat), a ≤ B → (∀ z ∈ zs, z.natAbs ≤ B) → zs.foldl (fun g z => Nat.gcd g z.natAbs) a ≤ B := by
    intro zs
    induction zs with
    | nil => intro a ha _; exact ha
    | cons z zs ih =>
      intro a ha hz
      refine ih _ ?_ fun y hy => hz y (List.mem_cons_of_mem _ hy)
      have h1 := hz z List.mem_cons_self
      rcases Nat.eq_zero_or_pos a with h0 | h0
      · subst h0; simpa using h1
      · exact Nat.le_trans (Nat.gcd_le_left _ h0) ha
  refine key zs 0 (Nat.zero_le _) fun z hz => ?_
  obtain ⟨i, hi, rfl⟩ := List.mem_iff_getElem.mp hz
  have := h i hi
  simpa [List.getD_eq_getElem?_getD, List.getElem?_eq_getElem hi] using this

/-- The first loop's relation: the first k numbers are gathered. -/
def GatherRel (zs : List Int) (len : Nat) (W : World) (v i : Value) (wr : World) : Prop :=
  ∃ (k : Nat) (A : Option Addr) (c : Nat), k ≤ len ∧ i = .int .i64 k ∧ v = .slice A k c ∧ wr.ownsRow W.heap.size 3 1 (.slice A k c) k ((zs.take k).map (Value.int .i64)) ∧ Below W.heap.size W wr

/-- The second loop's relation: the first j numbers, each by kk, are gathered. -/
def MoreRel (zs : List Int) (kk : Int) (len : Nat) (W : World) (v i : Value) (wr : World) : Prop :=
  ∃ (j : Nat) (A : Option Addr) (c : Nat), j ≤ len ∧ i = .int .i64 j ∧ v = .slice A j c ∧ wr.ownsRow W.heap.size 3 1 (.slice A j c) j (((zs.take j).map (· * kk)).map (Value.int .i64)) ∧ Below W.heap.size W wr

set_option maxRecDepth 100000 in
set_option maxHeartbeats 8000000 in
theorem shares_some (b off len cap : Nat) (zs : List Int) (d : Int) (w : World) (h : RowAt .u32 w (some ⟨b, off, none⟩) len b off zs) (hd0 : 0 ≤ d) (hd1 : d ≤ 65535) (hpos : 0 < len) :
    Calls Try.prog 6 #[.slice (some ⟨b, off, none⟩) len cap, .int .u16 d] w fun x w' => x = .returned (.bool true) ∧ Below w.heap.size w w' := by
  obtain ⟨_, hl, hb0, hc, hf⟩ := h
  obtain ⟨i0, hi, hz0, hz1, hz2⟩ := info_parts int_info
  have HC := Lib.hid hc
  have HF := Lib.hid hf
  have HL := Lib.hid hl
  clear hc hf hl
  go_enter Try.func6, Try.ntmps6
  go_wp2_with fail
  refine (speaks_any _).mono ?_
  rintro _ w1 ⟨rfl, bel1⟩
  by_cases c0 : 40 < len
  · have c1 : (40 : Int) < (len : Int) := by omega
    go_wp2_with fail
    refine (speaks_any _).mono ?_
    rintro _ w2 ⟨rfl, hb⟩
    go_wp2_with fail
    go_ret
    exact ⟨rfl, bel1.trans (hb.mono bel1.size)⟩
  · have c1 : (len : Int) ≤ 40 := by omega
    go_wp2_with fail
    go_loopw [5, 29] (fun v i wr => GatherRel zs len w1 v i wr) (fun _ i _ => len - (intOf i).toNat)
    case atStart => exact ⟨0, none, 0, Nat.zero_le _, rfl, rfl, World.ownsRow_nil _ _ _ _, Below.refl _ _⟩
    case round =>
      obtain ⟨k, A, c, hk, rfl, rfl, hown, hbel⟩ := hrel
      by_cases hlt : k < len
      · have hcell : wr.cell? ⟨b, off + k, none⟩ = some (.int .u32 (zs.getD k 0)) := (hbel.cell (by have := bel1.size; exact Nat.lt_of_lt_of_le hb0 this)).trans ((bel1.cell (by exact hb0)).trans (HC.out k hlt))
        have hwf := HF.out k hlt
        have HN := take_next zs k (by rw [HL.out]; exact hlt)
        obtain ⟨z, Hz⟩ : ∃ z, Hid (zs.getD k 0 = z) := ⟨_, rfl⟩
        rw [Hz.out] at hcell HN hwf
        obtain ⟨z1, z2⟩ := bounds_u32 hwf
        clear hwf
        have HNH := Lib.hid HN
        clear HN
        go_wp2_with (at_builtin; refine wpList_append_any _ rfl (.tmp 33) (.tmp 36) _ rfl w1.heap.size 3 i0 _ 1 8 Try.underlying30 hi hz0 hz1 hz2 rfl (by omega) (.slice A k c) k ((zs.take k).map (Value.int .i64)) rfl (hown.alloc _) (wr.heap.size + 1) (some ⟨wr.heap.size, 0, none⟩) 1 1 [.int .i64 z] rfl ?c1 ?c2 ?c3 ?c4 ?c5 ?_)
        case c1 => exact reads_one _ _ _
        case c2 => intro u hu; simp at hu; subst hu; rfl
        case c3 => unfold maxLen; omega
        case c4 => omega
        case c5 => have := hbel.size; simp; omega
        intro v1 w3 hown1 hg1 _
        obtain ⟨A1, c2, hv⟩ := slice_form hown1
        have hown2 : w3.ownsRow w1.heap.size 3 1 (.slice A1 (k + 1) c2) (k + 1) ((zs.take (k + 1)).map (Value.int .i64)) := by rw [HNH.out, ← hv]; simpa using hown1
        have bel3 : Below w1.heap.size w1 w3 := (hbel.alloc hbel.size _).grown hg1 (by have := hbel.size; simp; omega) (fun g hg => (hown.lt g hg).1)
        rw [hv]
        clear hv hown1 hg1 hown hbel hcell HNH
        go_wp2_with fail
        go_roundw
        case rel => first | exact ⟨k + 1, A1, c2, by omega, by go_num, rfl, hown2, bel3⟩ | ((repeat apply Exists.intro); exact ⟨⟨k + 1, A1, c2, by omega, by go_num, rfl, hown2, bel3⟩, rfl⟩)
        case measure => simp [intOf]; omega
      · obtain rfl : k = len := by omega
        rw [List.take_of_length_le (by rw [HL.out]; exact Nat.le_refl _)] at hown
        have hbase : w.heap.size ≤ w1.heap.size := bel1.size
        have belA : Below w.heap.size w wr := bel1.trans (hbel.mono bel1.size)
        rcases own_cells hown with ⟨h0, _⟩ | ⟨g, rfl, hg0, hg1, _, hcs⟩
        · omega
        have HCS := Lib.hid hcs
        clear hcs hbel bel1
        have hzb : ∀ i, i < k → 0 ≤ zs.getD i 0 ∧ zs.getD i 0 ≤ 4294967295 := fun i hi => bounds_u32 (HF.out i hi)
        have HZ := Lib.hid hzb
        clear hzb HC HF
        obtain ⟨K, hkk, kk1, kk2⟩ : ∃ K : Nat, d + 1 = (K : Int) ∧ 1 ≤ K ∧ K ≤ 65536 := ⟨(d + 1).toNat, by omega, by omega, by omega⟩
        have kk3 : (1 : Int) ≤ (K : Int) := by omega
        have kk4 : (K : Int) ≤ 65536 := by omega
        go_wp2_with fail
        clear hkk
        obtain ⟨wo, rfl⟩ : ∃ wo : World, wo = wr := ⟨_, rfl⟩
        go_loopw [9, 44] (fun v i wx => MoreRel zs K k wo v i wx) (fun _ i _ => k - (intOf i).toNat)
        case atStart => exact ⟨0, none, 0, Nat.zero_le _, rfl, rfl, World.ownsRow_nil _ _ _ _, Below.refl _ _⟩
        case round =>
          obtain ⟨j, A, c', hj, rfl, rfl, hownM, hbel⟩ := hrel
          by_cases hlt2 : j < k
          · have hcell : wr.cell? ⟨g, j, none⟩ = some (.int .i64 (zs.getD j 0)) := by simpa using cell_later hbel (HCS.out j hlt2)
            obtain ⟨z1, z2⟩ := HZ.out j hlt2
            have HN := take_next zs j (by rw [HL.out]; exact hlt2)
            obtain ⟨z, Hz⟩ : ∃ z, Hid (zs.getD j 0 = z) := ⟨_, rfl⟩
            rw [Hz.out] at hcell z1 z2 HN
            have HNH := Lib.hid HN
            clear HN
            have p0 : 0 ≤ z * (K : Int) := Int.mul_nonneg z1 (by omega)
            have p1 : z * (K : Int) ≤ 281474976710656 := by have := Int.mul_le_mul z2 kk4 (by omega) (by omega); omega
            go_wp2_with (at_builtin; refine wpList_append_any _ rfl (.tmp 48) (.tmp 52) _ rfl wo.heap.size 3 i0 _ 1 8 Try.underlying30 hi hz0 hz1 hz2 rfl (by omega) (.slice A j c') j (((zs.take j).map (· * (K : Int))).map (Value.int .i64)) rfl (hownM.alloc _) (wr.heap.size + 1) (some ⟨wr.heap.size, 0, none⟩) 1 1 [.int .i64 (z * (K : Int))] rfl ?c1 ?c2 ?c3 ?c4 ?c5 ?_)
            case c1 => exact reads_one _ _ _
            case c2 => intro u hu; simp at hu; subst hu; rfl
            case c3 => unfold maxLen; omega
            case c4 => omega
            case c5 => have := hbel.size; simp; omega
            intro v1 w3 hown1 hg1 _
            obtain ⟨A1, c2, hv⟩ := slice_form hown1
            have hown2 : w3.ownsRow wo.heap.size 3 1 (.slice A1 (j + 1) c2) (j + 1) (((zs.take (j + 1)).map (· * (K : Int))).map (Value.int .i64)) := by rw [HNH.out, ← hv]; simpa using hown1
            have bel3 : Below wo.heap.size wo w3 := (hbel.alloc hbel.size _).grown hg1 (by have := hbel.size; simp; omega) (fun q hq => (hownM.lt q hq).1)
            rw [hv]
            clear hv hown1 hg1 hownM hbel hcell HNH p0 p1
            go_wp2_with fail
            go_roundw
            case rel => first | exact ⟨j + 1, A1, c2, by omega, by go_num, rfl, hown2, bel3⟩ | ((repeat apply Exists.intro); exact ⟨⟨j + 1, A1, c2, by omega, by go_num, rfl, hown2, bel3⟩, rfl⟩)
            case measure => simp [intOf]; omega
          · obtain rfl : j = k := by omega
            rw [List.take_of_length_le (by rw [HL.out]; exact Nat.le_refl _)] at hownM
            have hown2 := own_below hown hbel
            have bel2 := belA.trans (hbel.mono belA.size)
            have HC2 : Hid (∀ i, i < j → wr.cell? ⟨g, 0 + i, none⟩ = some (.int .i64 (zs.getD i 0))) := fun i hi => cell_later hbel (HCS.out i hi)
            clear hown belA hbel HCS
            have gle := gl_le (zs := zs) (B := 4294967295) (fun i hi => by have := HZ.out i (by rw [← HL.out]; exact hi); omega)
            have gmul := gl_mul zs K
            obtain ⟨G, HG⟩ : ∃ G : Nat, Hid (gl zs = G) := ⟨_, rfl⟩
            rw [HG.out] at gle gmul
            have p0 : 0 ≤ (G : Int) * (K : Int) := Int.mul_nonneg (by omega) (by omega)
            have p1 : (G : Int) * (K : Int) ≤ 281474976710656 := by have := Int.mul_le_mul (show (G : Int) ≤ 4294967295 by omega) kk4 (by omega) (by omega); omega
            have G1 := gcd_own wr hown2 (by omega) (fun i hi => by have := HZ.out i hi; omega)
            rw [HG.out] at G1
            go_wp2_with fail
            refine G1.mono ?_
            clear G1
            rintro _ w3 ⟨rfl, hb⟩
            have hown3 := own_below hown2 hb
            have hownM3 := own_below hownM hb
            have bel3 := bel2.trans (hb.mono bel2.size)
            have HC3 : Hid (∀ i, i < j → w3.cell? ⟨g, 0 + i, none⟩ = some (.int .i64 (zs.getD i 0))) := fun i hi => cell_later hb (HC2.out i hi)
            clear hb hown2 hownM bel2 HC2
            have G2 := gcd_own w3 hownM3 (by omega) (fun i hi => by
              have e : (zs.map (· * (K : Int))).getD i 0 = zs.getD i 0 * K := by simp [List.getD_eq_getElem?_getD, List.getElem?_eq_getElem (show i < zs.length by rw [HL.out]; exact hi)]
              rw [e]
              have hzi := HZ.out i hi
              have := Int.mul_nonneg hzi.1 (show (0 : Int) ≤ K by omega)
              have := Int.mul_le_mul hzi.2 kk4 (by omega) (by omega)
              omega)
            rw [gmul, Int.natCast_mul] at G2
            clear gmul
            go_wp2_with fail
            refine G2.mono ?_
            clear G2
            rintro _ w4 ⟨rfl, hb⟩
            have hown4 := own_below hown3 hb
            have bel4 := bel3.trans (hb.mono bel3.size)
            have HC4 : Hid (∀ i, i < j → w4.cell? ⟨g, 0 + i, none⟩ = some (.int .i64 (zs.getD i 0))) := fun i hi => cell_later hb (HC3.out i hi)
            clear hb hown3 hownM3 bel3 HC3
            obtain ⟨k, rfl⟩ : ∃ k : Nat, k = j := ⟨_, rfl⟩
            cases hO : lcmO zs with
            | none =>
              have HO1 : Hid (lv (lcmO zs) = 0) := by unfold Hid; rw [hO]; rfl
              have HO2 : Hid (lerr (lcmO zs) = 2) := by unfold Hid; rw [hO]; rfl
              clear hO
              have L1 := lcm_own w4 hown4 (by omega) (fun i hi => by have := HZ.out i hi; omega)
              rw [HO1.out, HO2.out] at L1
              go_wp2_with fail
              refine L1.mono ?_
              clear L1
              rintro _ w5 ⟨rfl, hb⟩
              have hown5 := own_below hown4 hb
              have bel5 := bel4.trans (hb.mono bel4.size)
              have HC5 : Hid (∀ i, i < k → w5.cell? ⟨g, 0 + i, none⟩ = some (.int .i64 (zs.getD i 0))) := fun i hi => cell_later hb (HC4.out i hi)
              clear hb hown4 bel4 HC4
              go_wp2_with fail
              go_loop [70] (fun i => ∃ j : Nat, j ≤ k ∧ i = .int .i64 j) (fun i => k - (intOf i).toNat)
              case atStart => exact ⟨0, Nat.zero_le _, rfl⟩
              case round =>
                obtain ⟨j, hj, rfl⟩ := hrel
                by_cases hlt : j < k
                · have hcell : w5.cell? ⟨g, j, none⟩ = some (.int .i64 (zs.getD j 0)) := by simpa using HC5.out j hlt
                  obtain ⟨x0, x1⟩ := HZ.out j hlt
                  have hrem := gl_rem (zs := zs) (i := j) (by rw [HL.out]; exact hlt) x0
                  rw [HG.out] at hrem
                  obtain ⟨x, hx⟩ : ∃ x, Hid (zs.getD j 0 = x) := ⟨_, rfl⟩
                  rw [hx.out] at hcell x0 x1 hrem
                  clear hx
                  by_cases hG0 : G = 0
                  · have hg0 : ¬ (0 : Int) < (G : Int) := by omega
                    have hz0 := Lib.hid hG0
                    clear hG0 hrem
                    go_wp2_with fail
                    go_round
                    case rel => exact ⟨j + 1, by omega, by go_num⟩
                    case measure => simp [intOf]; omega
                  · have hg0 : (0 : Int) < (G : Int) := by omega
                    clear hG0
                    go_wp2_with fail
                    go_round
                    case rel => exact ⟨j + 1, by omega, by go_num⟩
                    case measure => simp [intOf]; omega
                · obtain rfl : j = k := by omega
                  go_wp2_with (at_builtin; refine wpList_append_any _ rfl (.tmp 98) (.tmp 99) _ rfl w1.heap.size 3 i0 _ 1 8 Try.underlying30 hi hz0 hz1 hz2 rfl (by omega) (.slice (some ⟨g, 0, none⟩) j c) j (zs.map (Value.int .i64)) rfl hown5 w5.heap.size (some ⟨g, 0, none⟩) j c (zs.map (Value.int .i64)) rfl (Reads.of_own hown5) ?c1 ?c2 ?c3 ?c4 ?_)
                  case c1 =>
                    first | (intro u _; rfl) | (simp; done)
                  case c2 => unfold maxLen; omega
                  case c3 => omega
                  case c4 => have := hown5.lt g rfl; omega
                  intro v6 w6 hown6 hg6 _
                  obtain ⟨A6, c6, hv⟩ := slice_form hown6
                  have hown7 : w6.ownsRow w1.heap.size 3 1 (.slice A6 (j + j) c6) (j + j) ((zs ++ zs).map (Value.int .i64)) := by rw [← hv, List.map_append]; exact hown6
                  have bel6 : Below w.heap.size w w6 := bel5.grown hg6 bel5.size (fun q hq => by have := (hown5.lt q hq).1; omega)
                  rw [hv]
                  clear hv hown6 hg6 hown5 bel5 HC5
                  have L2 := lcm_own w6 hown7 (by omega) (fun i hi => by
                    by_cases hij : i < j
                    · have e : (zs ++ zs).getD i 0 = zs.getD i 0 := by simp [List.getD_eq_getElem?_getD, List.getElem?_append_left (show i < zs.length by rw [HL.out]; exact hij)]
                      rw [e]; have := HZ.out i hij; omega
                    · have e : (zs ++ zs).getD i 0 = zs.getD (i - j) 0 := by simp [List.getD_eq_getElem?_getD, List.getElem?_append_right (show zs.length ≤ i by rw [HL.out]; omega), HL.out]
                      rw [e]; have := HZ.out (i - j) (by omega); omega)
                  rw [lcm_twice, HO1.out, HO2.out] at L2
                  go_wp2_with fail
                  refine L2.mono ?_
                  clear L2
                  rintro _ w7 ⟨rfl, hb⟩
                  have bel7 := bel6.trans (hb.mono bel6.size)
                  clear hb
                  go_wp2_with fail
                  go_ret
                  exact ⟨rfl, bel7⟩
            | some n =>
              have HO1 : Hid (lv (lcmO zs) = n) := by unfold Hid; rw [hO]; rfl
              have HO2 : Hid (lerr (lcmO zs) = 0) := by unfold Hid; rw [hO]; rfl
              obtain ⟨n0, n1⟩ := lcm_bd zs hO
              have HD := Lib.hid hO
              clear hO
              have L1 := lcm_own w4 hown4 (by omega) (fun i hi => by have := HZ.out i hi; omega)
              rw [HO1.out, HO2.out] at L1
              go_wp2_with fail
              refine L1.mono ?_
              clear L1
              rintro _ w5 ⟨rfl, hb⟩
              have hown5 := own_below hown4 hb
              have bel5 := bel4.trans (hb.mono bel4.size)
              have HC5 : Hid (∀ i, i < k → w5.cell? ⟨g, 0 + i, none⟩ = some (.int .i64 (zs.getD i 0))) := fun i hi => cell_later hb (HC4.out i hi)
              clear hb hown4 bel4 HC4
              go_wp2_with fail
              go_loop [70] (fun i => ∃ j : Nat, j ≤ k ∧ i = .int .i64 j) (fun i => k - (intOf i).toNat)
              case atStart => exact ⟨0, Nat.zero_le _, rfl⟩
              case round =>
                obtain ⟨j, hj, rfl⟩ := hrel
                by_cases hlt : j < k
                · have hcell : w5.cell? ⟨g, j, none⟩ = some (.int .i64 (zs.getD j 0)) := by simpa using HC5.out j hlt
                  obtain ⟨x0, x1⟩ := HZ.out j hlt
                  have hrem := gl_rem (zs := zs) (i := j) (by rw [HL.out]; exact hlt) x0
                  rw [HG.out] at hrem
                  obtain ⟨hx1, hdv⟩ := lcm_dvd HD.out j (by rw [HL.out]; exact hlt)
                  have hnx := Int.emod_eq_zero_of_dvd hdv
                  clear hdv
                  obtain ⟨x, hx⟩ : ∃ x, Hid (zs.getD j 0 = x) := ⟨_, rfl⟩
                  rw [hx.out] at hcell x0 x1 hrem hx1 hnx
                  clear hx
                  by_cases hG0 : G = 0
                  · have hg0 : ¬ (0 : Int) < (G : Int) := by omega
                    have hz0 := Lib.hid hG0
                    clear hG0 hrem
                    go_wp2_with fail
                    go_round
                    case rel => exact ⟨j + 1, by omega, by go_num⟩
                    case measure => simp [intOf]; omega
                  · have hg0 : (0 : Int) < (G : Int) := by omega
                    clear hG0
                    go_wp2_with fail
                    go_round
                    case rel => exact ⟨j + 1, by omega, by go_num⟩
                    case measure => simp [intOf]; omega
                · obtain rfl : j = k := by omega
                  go_wp2_with (at_builtin; refine wpList_append_any _ rfl (.tmp 98) (.tmp 99) _ rfl w1.heap.size 3 i0 _ 1 8 Try.underlying30 hi hz0 hz1 hz2 rfl (by omega) (.slice (some ⟨g, 0, none⟩) j c) j (zs.map (Value.int .i64)) rfl hown5 w5.heap.size (some ⟨g, 0, none⟩) j c (zs.map (Value.int .i64)) rfl (Reads.of_own hown5) ?c1 ?c2 ?c3 ?c4 ?_)
                  case c1 =>
                    first | (intro u _; rfl) | (simp; done)
                  case c2 => unfold maxLen; omega
                  case c3 => omega
                  case c4 => have := hown5.lt g rfl; omega
                  intro v6 w6 hown6 hg6 _
                  obtain ⟨A6, c6, hv⟩ := slice_form hown6
                  have hown7 : w6.ownsRow w1.heap.size 3 1 (.slice A6 (j + j) c6) (j + j) ((zs ++ zs).map (Value.int .i64)) := by rw [← hv, List.map_append]; exact hown6
                  have bel6 : Below w.heap.size w w6 := bel5.grown hg6 bel5.size (fun q hq => by have := (hown5.lt q hq).1; omega)
                  rw [hv]
                  clear hv hown6 hg6 hown5 bel5 HC5
                  have L2 := lcm_own w6 hown7 (by omega) (fun i hi => by
                    by_cases hij : i < j
                    · have e : (zs ++ zs).getD i 0 = zs.getD i 0 := by simp [List.getD_eq_getElem?_getD, List.getElem?_append_left (show i < zs.length by rw [HL.out]; exact hij)]
                      rw [e]; have := HZ.out i hij; omega
                    · have e : (zs ++ zs).getD i 0 = zs.getD (i - j) 0 := by simp [List.getD_eq_getElem?_getD, List.getElem?_append_right (show zs.length ≤ i by rw [HL.out]; omega), HL.out]
                      rw [e]; have := HZ.out (i - j) (by omega); omega)
                  rw [lcm_twice, HO1.out, HO2.out] at L2
                  go_wp2_with fail
                  refine L2.mono ?_
                  clear L2
                  rintro _ w7 ⟨rfl, hb⟩
                  have bel7 := bel6.trans (hb.mono bel6.size)
                  clear hb
                  go_wp2_with fail
                  go_ret
                  exact ⟨rfl, bel7⟩

set_option maxRecDepth 100000 in
set_option maxHeartbeats 2000000 in
theorem shares_zero (a : Option Addr) (cap : Nat) (d : Int) (w : World) (hd0 : 0 ≤ d) (hd1 : d ≤ 65535) :
    Calls Try.prog 6 #[.slice a 0 cap, .int .u16 d] w fun x w' => x = .returned (.bool true) ∧ Below w.heap.size w w' := by
  have e1 : lv (lcmO []) = 1 := rfl
  have e2 : lerr (lcmO []) = 0 := rfl
  have L2 : Hid (∀ W, Calls Try.prog 18 #[.slice none 0 0] W fun e w' => e = .returned (.tuple #[.int .i64 1, .int .i64 0]) ∧ Below W.heap.size W w') := fun W => by
    have := lcm_nil none 0 W; rwa [e1, e2] at this
  clear e1 e2
  obtain ⟨i0, hi, hz0, hz1, hz2⟩ := info_parts int_info
  go_enter Try.func6, Try.ntmps6
  go_wp2_with fail
  refine (speaks_any _).mono ?_
  rintro _ w1 ⟨rfl, bel1⟩
  go_wp2_with fail
  go_loop [5, 29] (fun v i => i = .int .i64 0 ∧ v = .slice none 0 0) (fun _ _ => 0)
  case atStart => exact ⟨rfl, rfl⟩
  case round =>
    obtain ⟨rfl, rfl⟩ := hrel
    go_wp2_with fail
    go_loop [9, 44] (fun v i => i = .int .i64 0 ∧ v = .slice none 0 0) (fun _ _ => 0)
    case atStart => exact ⟨rfl, rfl⟩
    case round =>
      obtain ⟨rfl, rfl⟩ := hrel
      go_wp2_with fail
      refine (gcdbig_nil none 0 _).mono ?_
      rintro _ w2 ⟨rfl, hb⟩
      have bel2 := bel1.trans (hb.mono bel1.size)
      clear hb bel1
      go_wp2_with fail
      refine (gcdbig_nil none 0 _).mono ?_
      rintro _ w3 ⟨rfl, hb⟩
      have bel3 := bel2.trans (hb.mono bel2.size)
      clear hb bel2
      go_wp2_with fail
      refine (L2.out _).mono ?_
      rintro _ w4 ⟨rfl, hb⟩
      have bel4 := bel3.trans (hb.mono bel3.size)
      clear hb bel3
      go_wp2_with fail
      go_loop [70] (fun i => i = .int .i64 0) (fun _ => 0)
      case atStart => rfl
      case round =>
        obtain rfl := hrel
        go_wp2_with (at_builtin; refine wpList_append_own_none rfl (.tmp 98) (.tmp 99) _ rfl w4.heap.size 3 i0 1 Try.underlying30 hi (.slice none 0 0) 0 [] rfl (World.ownsRow_nil _ _ _ _) rfl ?_)
        refine (L2.out _).mono ?_
        rintro _ w5 ⟨rfl, hb⟩
        have bel5 := bel4.trans (hb.mono bel4.size)
        clear hb bel4
        go_wp2_with fail
        go_ret
        exact ⟨rfl, bel5⟩

theorem shares_walk (a : Option Addr) (len cap : Nat) (zs : List Int) (d : Int) (w : World) (h : IsRow .u32 w a len cap zs) (hd : (Lit.int .u16 d).wf = true) :
    Calls Try.prog 6 #[.slice a len cap, .int .u16 d] w fun x w' => x = .returned (.bool true) ∧ Below w.heap.size w w' := by
  obtain ⟨d0, d1⟩ := bounds_u16 hd
  rcases row_split h with rfl | ⟨b, off, zs', h'⟩
  · exact shares_zero a cap d w d0 d1
  · obtain rfl := h'.at_
    rcases Nat.eq_zero_or_pos len with rfl | hpos
    · exact shares_zero _ cap d w d0 d1
    · exact shares_some b off len cap zs' d w h' d0 d1 hpos
end Go.Proofs.Ythcoldehpaambaa
