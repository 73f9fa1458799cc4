/-
  SpanDivides, the walk: for any list of ints the Go text answers true, and writes nothing that was there. No conditions.
-/
import Derived.Test.YthcoldehpaambaaRLcm
import Derived.OpenShut
namespace Go.Proofs.Ythcoldehpaambaa
open Go.RowKit
set_option linter.unusedSimpArgs false

/-- What the walk is told of a slice of integers that came in: it is nil; or it leads to a row of cells that hold the numbers, each fitting its kind. -/
def IsRow (k : IntKind) (w : World) (a : Option Addr) (len cap : Nat) (zs : List Int) : Prop :=
  (a = none ∧ len = 0 ∧ cap = 0 ∧ zs = []) ∨
  ∃ x, a = some x ∧ len ≤ cap ∧ cap ≤ maxLen ∧ zs.length = cap ∧ (∀ i, i < zs.length → w.cell? (x.add i) = some (.int k (zs.getD i 0))) ∧ ∀ n ∈ zs, (Lit.int k n).wf = true

/-- The row's elements: none, or a list at a place. -/
structure RowAt (k : IntKind) (w : World) (a : Option Addr) (len : Nat) (b off : Nat) (zs : List Int) : Prop where
  at_ : a = some ⟨b, off, none⟩
  len_ : zs.length = len
  low : b < w.heap.size
  cell : ∀ i, i < len → w.cell? ⟨b, off + i, none⟩ = some (.int k (zs.getD i 0))
  fits : ∀ i, i < len → (Lit.int k (zs.getD i 0)).wf = true
theorem row_split {k : IntKind} {w : World} {a : Option Addr} {len cap : Nat} {zs : List Int} (h : IsRow k w a len cap zs) : len = 0 ∨ ∃ b off zs', RowAt k w a len b off zs' := by
  rcases h with ⟨_, h, _, _⟩ | ⟨x, rfl, h1, h2, h3, h4, h5⟩
  · exact .inl h
  · by_cases h0 : len = 0
    · exact .inl h0
    · right
      obtain ⟨b, off, spot⟩ := x
      have hc := h4 0 (by omega)
      have hs : spot = none := by simpa [Addr.add] using World.cell?_spot hc
      subst hs
      have hl : b < w.heap.size := by
        have := World.block_lt_of_cell? _ _ hc
        simpa [Addr.add] using this
      refine ⟨b, off, zs.take len, rfl, by rw [List.length_take]; omega, hl, fun i hi => ?_, fun i hi => ?_⟩
      · have := h4 i (by omega)
        have e : (zs.take len).getD i 0 = zs.getD i 0 := by simp [List.getD_eq_getElem?_getD, List.getElem?_take, hi]
        rw [e]
        by_cases hi0 : i = 0
        · subst hi0; simpa [Addr.add] using this
        · simpa [Addr.add, hi0] using this
      · have e : (zs.take len).getD i 0 = zs[i]'(by omega) := by simp [List.getD_eq_getElem?_getD, List.getElem?_take, hi, List.getElem?_eq_getElem (show i < zs.length by omega)]
        rw [e]
        exact h5 _ (List.getElem_mem _)

/-- The loop's relation. -/
structure DivSeen (zs : List Int) (k : Nat) (g : Int) : Prop where
  g_ : g = gl (zs.take k)
  lo : ∀ i, i < k → -4611686018427387904 ≤ zs.getD i 0
def DivRel (zs : List Int) (len : Nat) (W : World) (g i : Value) (wr : World) : Prop :=
  ∃ (k : Nat) (x : Int), k ≤ len ∧ i = .int .i64 k ∧ g = .int .i64 x ∧ DivSeen zs k x ∧ 0 ≤ x ∧ x ≤ 9223372036854775807 ∧ Below W.heap.size W wr

theorem gcd_le (a z : Int) (h0 : 0 ≤ a) (h1 : a ≤ 9223372036854775807) (h2 : -9223372036854775807 ≤ z) (h3 : z ≤ 9223372036854775807) : ((Nat.gcd a.natAbs z.natAbs : Nat) : Int) ≤ 9223372036854775807 := by
  by_cases ha : a = 0
  · subst ha; simp; omega
  · have : Nat.gcd a.natAbs z.natAbs ≤ a.natAbs := Nat.gcd_le_left _ (by omega)
    omega

set_option maxRecDepth 100000 in
set_option maxHeartbeats 2000000 in
theorem divides_zero (a : Option Addr) (cap : Nat) (w : World) :
    Calls Try.prog 5 #[.slice a 0 cap] w fun x w' => x = .returned (.bool true) ∧ Below w.heap.size w w' := by
  go_enter Try.func5, Try.ntmps5
  go_wp2_with fail
  refine (speaks_any _).mono ?_
  rintro _ w1 ⟨rfl, hb1⟩
  go_wp2_with fail
  go_loopw [3, 20] (fun g i wr => i = .int .i64 0 ∧ g = .int .i64 0 ∧ Below w.heap.size w wr) (fun _ _ _ => 0)
  case atStart => exact ⟨rfl, rfl, hb1⟩
  case round =>
    obtain ⟨rfl, rfl, bel1⟩ := hrel
    have e1 : lv (lcmO []) = 1 := rfl
    have e2 : lerr (lcmO []) = 0 := rfl
    have L1 := lcm_nil a cap wr
    rw [e1, e2] at L1
    have L2 : Hid (∀ W, Calls Try.prog 19 #[.slice a 0 cap] W fun e w' => e = .returned (.tuple #[.int .i64 1, .int .i64 0]) ∧ Below W.heap.size W w') := fun W => by
      have := rlcm_nil a cap W; rwa [e1, e2] at this
    clear e1 e2
    go_wp2_with fail
    refine L1.mono ?_
    clear L1
    rintro _ w2 ⟨rfl, hb⟩
    have bel2 := bel1.trans (hb.mono bel1.size)
    clear hb bel1
    go_wp2_with fail
    refine (L2.out _).mono ?_
    rintro _ w3 ⟨rfl, hb⟩
    have bel3 := bel2.trans (hb.mono bel2.size)
    clear hb bel2
    go_wp2_with fail
    refine (gcdbig_nil a cap _).mono ?_
    rintro _ w4 ⟨rfl, hb⟩
    have bel4 := bel3.trans (hb.mono bel3.size)
    clear hb bel3
    go_wp2_with fail
    go_ret
    exact ⟨rfl, bel4⟩

set_option maxRecDepth 100000 in
set_option maxHeartbeats 4000000 in
theorem divides_some (b off len cap : Nat) (zs : List Int) (w : World) (h : RowAt .i64 w (some ⟨b, off, none⟩) len b off zs) :
    Calls Try.prog 5 #[.slice (some ⟨b, off, none⟩) len cap] w fun x w' => x = .returned (.bool true) ∧ Below w.heap.size w w' := by
  obtain ⟨_, hl, hb0, hc, hf⟩ := h
  have HC := Lib.hid hc
  have HF := Lib.hid hf
  have HL := Lib.hid hl
  clear hc hf hl
  go_enter Try.func5, Try.ntmps5
  go_wp2_with fail
  refine (speaks_any _).mono ?_
  rintro _ w1 ⟨rfl, bel1⟩
  by_cases c0 : 40 < len
  · have c1 : (40 : Int) < (len : Int) := by omega
    go_wp2_with fail
    refine (speaks_any _).mono ?_
    rintro _ w2 ⟨rfl, hb⟩
    go_wp2_with fail
    go_ret
    exact ⟨rfl, bel1.trans (hb.mono bel1.size)⟩
  · have c1 : (len : Int) ≤ 40 := by omega
    go_wp2_with fail
    go_loopw [3, 20] (fun g i wr => DivRel zs len w g i wr) (fun _ i _ => len - (intOf i).toNat)
    case atStart => exact ⟨0, 0, Nat.zero_le _, rfl, rfl, ⟨rfl, fun i hi => by omega⟩, by omega, by omega, bel1⟩
    case round =>
      obtain ⟨k, x, hk, rfl, rfl, hs, hx1, hx2, hbel⟩ := hrel
      clear bel1
      by_cases hlt : k < len
      · have hcell : wr.cell? ⟨b, off + k, none⟩ = some (.int .i64 (zs.getD k 0)) := (hbel.cell (by exact hb0)).trans (HC.out k hlt)
        have hwf := HF.out k hlt
        have HN := gl_next zs k (by rw [HL.out]; exact hlt)
        obtain ⟨z, Hz⟩ : ∃ z, Hid (zs.getD k 0 = z) := ⟨_, rfl⟩
        rw [Hz.out] at hcell HN hwf
        have z2 := (bounds_i64 hwf).2
        clear hwf
        have HNH := Lib.hid HN
        clear HN
        by_cases c2 : z < -4611686018427387904
        · go_wp2_with fail
          go_ret
          exact ⟨rfl, hbel⟩
        · have RG := rgcdbig_any x z wr (by omega) hx2 (by omega) z2
          have gle := gcd_le x z hx1 hx2 (by omega) z2
          obtain ⟨G, HG⟩ : ∃ G : Nat, Hid (Nat.gcd x.natAbs z.natAbs = G) := ⟨_, rfl⟩
          rw [HG.out] at RG gle
          have hs' : DivSeen zs (k + 1) (G : Int) := ⟨by rw [HNH.out, ← HG.out]; have := hs.g_; congr 2; omega, fun i hi => by
            by_cases hik : i < k
            · exact hs.lo i hik
            · obtain rfl : i = k := by omega
              rw [Hz.out]; omega⟩
          go_wp2_with fail
          refine RG.mono ?_
          clear RG
          rintro _ w2 ⟨rfl, hb⟩
          have bel2 := hbel.trans (hb.mono hbel.size)
          clear hb hbel hcell
          go_wp2_with fail
          go_roundw
          case rel => first | exact ⟨k + 1, G, by omega, by go_num, rfl, hs', by omega, gle, bel2⟩ | ((repeat apply Exists.intro); exact ⟨⟨k + 1, G, by omega, by go_num, rfl, hs', by omega, gle, bel2⟩, rfl⟩)
          case measure => simp [intOf]; omega
      · obtain rfl : k = len := by omega
        have hg := hs.g_
        rw [List.take_of_length_le (by rw [HL.out]; exact Nat.le_refl _)] at hg
        subst hg
        have hz : ∀ i, i < k → -9223372036854775807 ≤ zs.getD i 0 ∧ zs.getD i 0 ≤ 9223372036854775807 := fun i hi => ⟨by have := hs.lo i hi; omega, (bounds_i64 (HF.out i hi)).2⟩
        have HZ := Lib.hid hz
        clear hz hs
        have hcs : ∀ (W : World), Below w.heap.size w W → ∀ i, i < k → W.cell? ⟨b, off + i, none⟩ = some (.int .i64 (zs.getD i 0)) := fun W hW i hi => (hW.cell (by exact hb0)).trans (HC.out i hi)
        have HCS := Lib.hid hcs
        clear hcs
        obtain ⟨v, Hv⟩ : ∃ v, Hid (lv (lcmO zs) = v) := ⟨_, rfl⟩
        obtain ⟨er, He⟩ : ∃ er, Hid (lerr (lcmO zs) = er) := ⟨_, rfl⟩
        have L1 := lcm_some b off k cap zs wr HL.out (by omega) (by have := hbel.size; omega) (HCS.out wr hbel) HZ.out
        rw [Hv.out, He.out] at L1
        go_wp2_with fail
        refine L1.mono ?_
        clear L1
        rintro _ w2 ⟨rfl, hb⟩
        have bel2 := hbel.trans (hb.mono hbel.size)
        clear hb hbel
        have L2 := rlcm_some b off k cap zs w2 HL.out (by omega) (by have := bel2.size; omega) (HCS.out w2 bel2) HZ.out
        rw [Hv.out, He.out] at L2
        go_wp2_with fail
        refine L2.mono ?_
        clear L2
        rintro _ w3 ⟨rfl, hb⟩
        have bel3 := bel2.trans (hb.mono bel2.size)
        clear hb bel2
        have L3 := gcdbig_some b off k cap zs w3 HL.out (by omega) (by have := bel3.size; omega) (HCS.out w3 bel3) HZ.out
        go_wp2_with fail
        refine L3.mono ?_
        clear L3
        rintro _ w4 ⟨rfl, hb⟩
        have bel4 := bel3.trans (hb.mono bel3.size)
        clear hb bel3
        go_wp2_with fail
        go_ret
        exact ⟨rfl, bel4⟩

theorem divides_walk (a : Option Addr) (len cap : Nat) (zs : List Int) (w : World) (h : IsRow .i64 w a len cap zs) :
    Calls Try.prog 5 #[.slice a len cap] w fun x w' => x = .returned (.bool true) ∧ Below w.heap.size w w' := by
  rcases row_split h with rfl | ⟨b, off, zs', h'⟩
  · exact divides_zero a cap w
  · obtain rfl := h'.at_
    exact divides_some b off len cap zs' w h'
end Go.Proofs.Ythcoldehpaambaa
