/-
  LinkOnce: what is asked at the end. Each statement bears its own conditions.
-/
import Derived.Test.YtkbjonblflhkoaaLnQ
import Derived.Test.YtkbjonblflhkoaaLnP
import Derived.Laws.Rows
namespace Go.Proofs.Ytkbjonblflhkoaa.Ln
open Go.RowKit Go.Proofs.Ytkbjonblflhkoaa.F Go.Proofs.Ytkbjonblflhkoaa.U Go.Proofs.Ytkbjonblflhkoaa.Q
set_option linter.unusedVariables false
set_option linter.unusedSimpArgs false
/-- Does net 0, net 1 bring it? -/
def hB0 (zs : List Int) (d : Nat) : Prop := ¬ (zs.getD d 0).tmod 2 = 0
def hB1 (zs : List Int) (d : Nat) : Prop := ¬ (zs.getD d 0 / 2).tmod 2 = 0
def hB (zs : List Int) (d : Nat) : Prop := hB0 zs d ∨ hB1 zs d
structure Oc1 (len : Nat) (zs : List Int) (w0 : World) (rv iv : Value) (wr : World) : Prop where
  ex : ∃ i c : Nat, i ≤ len ∧ c ≤ 60 ∧ rv = .int .i64 (c : Int) ∧ iv = .int .i64 (i : Int) ∧ (c = i ∨ (c < i ∧ hB zs (i - c - 1))) ∧ (∀ d, d + 61 ≤ i → ∃ j, d ≤ j ∧ j ≤ d + 60 ∧ hB zs j) ∧ w0 = wr
structure Oc2 (len : Nat) (w0 : World) (iv : Value) (wr : World) : Prop where
  ex : ∃ i : Nat, i ≤ len ∧ iv = .int .i64 (i : Int) ∧ w0 = wr
set_option maxRecDepth 100000 in
set_option maxHeartbeats 16000000 in
theorem once_any (a : Option Addr) (len cap : Nat) (zs : List Int) (C : Array Value) (out : Nat → Int) (lag : Int) (w : World) (hz : ∀ i, i < len → ∃ b off, a = some ⟨b, off, none⟩ ∧ w.cell? ⟨b, off + i, none⟩ = some (.int .i64 (zs.getD i 0))) (hlen : len ≤ 300) (hC : C.size = 300) (hCo : ∀ i, i < 300 → C[i]? = some (.int .i64 (out i))) (hl : lag ≤ 60) (hG : GapOk len (hB zs) → ∀ i, i < len → out i ≤ 1 ∧ (hB zs i → out i = 1)) :
    Calls Try.prog 22 #[.slice a len cap, .agg C, .int .i64 lag] w fun e w' => e = .returned (.bool true) ∧ Below w.heap.size w w' := by
  have HZ := Lib.hid hz
  have HC := Lib.hid hC
  have HCo := Lib.hid hCo
  have HG := Lib.hid hG
  have HN : Hid (len ≤ 300) := hlen
  clear hz hC hCo hG hlen
  go_enter Try.func22, Try.ntmps22
  go_wp2_with fail
  obtain ⟨X, hX⟩ : ∃ X, w.heap.size = X := ⟨_, rfl⟩
  have hbw : Below w.heap.size w (w.alloc (.cells C 63)) := (Below.refl _ _).alloc (Nat.le_refl _) _
  have hx : (w.alloc (.cells C 63)).heap[X]? = some (.cells C 63 (0, 0)) := by rw [← hX]; exact heap_alloc_new _ _
  have HZ0 : Hid (∀ i, i < len → ∃ b off, a = some ⟨b, off, none⟩ ∧ (w.alloc (.cells C 63)).cell? ⟨b, off + i, none⟩ = some (.int .i64 (zs.getD i 0))) := fun i hi => by obtain ⟨b, off, e1, e2⟩ := HZ.out i hi; exact ⟨b, off, e1, cell_later hbw e2⟩
  obtain ⟨W0, hW0⟩ : ∃ W, w.alloc (.cells C 63) = W := ⟨_, rfl⟩
  rw [hW0] at hbw hx HZ0
  have HBW := Lib.hid hbw
  have HCX : Hid (∀ i, i < 300 → W0.cell? ⟨X, i, none⟩ = some (.int .i64 (out i))) := fun i hi => by rw [(row_cell hx i).1]; exact HCo.out i hi
  clear hbw hx
  try simp only [hW0]
  try simp only [hX]
  clear hW0 hX
  go_loopw [7, 8] (fun rv iv wr => Oc1 len zs W0 rv iv wr) (fun _ i _ => len - (intOf i).toNat)
  case atStart => exact ⟨⟨0, 0, Nat.zero_le _, Nat.zero_le _, rfl, rfl, .inl rfl, fun d hd => by omega, rfl⟩⟩
  case round =>
    obtain ⟨⟨i, c, hi, hc, rfl, rfl, hcc, hw, rfl⟩⟩ := hrel
    have HWI := Lib.hid hw
    have HCC : Hid (c ≤ 60 ∧ (c = i ∨ (c < i ∧ hB zs (i - c - 1)))) := ⟨hc, hcc⟩
    clear hw hcc hc
    by_cases hlt : i < len
    · have HX : Hid (i < len) := hlt
      have hiI : (i : Int) < (len : Int) := by omega
      have hi300 : (i : Int) < 300 := by have := HN.out; omega
      have hc60 : (c : Int) ≤ 60 := by have := HCC.out; omega
      obtain ⟨b, off, hA, hcz⟩ := HZ0.out i (by omega)
      subst hA
      obtain ⟨zv, hzv⟩ : ∃ x, zs.getD i 0 = x := ⟨_, rfl⟩
      have e0 : W0.cell? ⟨b, off + i, none⟩ = some (.int .i64 zv) := by rw [← hzv]; exact hcz
      have HV : Hid (zs.getD i 0 = zv) := hzv
      clear hzv hcz
      clear hi
      by_cases k0 : zv.tmod 2 = 0
      · by_cases k1 : (zv / 2).tmod 2 = 0
        · by_cases k2 : c = 60
          · subst k2
            clear hlt
            go_wp2_with fail
            go_ret
            exact ⟨rfl, HBW.out⟩
          · have hcl : ¬ ((c : Int) + 1 > 60) := by have := HCC.out; omega
            have HW : Hid (∀ d, d + 61 ≤ i + 1 → ∃ j, d ≤ j ∧ j ≤ d + 60 ∧ hB zs j) := fun d hd => by
              by_cases h1 : d + 61 ≤ i
              · exact HWI.out d h1
              · have hcc := HCC.out
                rcases hcc.2 with e | ⟨e1, e2⟩
                · omega
                · exact ⟨i - c - 1, by omega, by omega, e2⟩
            have HC2 : Hid (c + 1 ≤ 60) := by have := HCC.out; unfold Hid; omega
            clear hlt
            go_wp2_with fail
            go_roundw
            case rel =>
              have Q : Oc1 len zs W0 (.int .i64 ((c : Int) + 1)) (.int .i64 ((i : Int) + 1)) W0 := ⟨⟨i + 1, c + 1, by have := HX.out; omega, HC2.out, by go_num, by go_num, by rcases HCC.out.2 with e | ⟨e1, e2⟩; exact .inl (by omega); exact .inr ⟨by omega, by rw [show i + 1 - (c + 1) - 1 = i - c - 1 by omega]; exact e2⟩, HW.out, rfl⟩⟩
              first | exact Q | ((repeat apply Exists.intro); exact ⟨Q, rfl⟩)
            case measure => have := HX.out; simp [intOf]; omega
        · clear hlt
          have hy : hB zs i := .inr (by unfold hB1; rw [HV.out]; exact k1)
          have HY := Lib.hid hy
          have HW : Hid (∀ d, d + 61 ≤ i + 1 → ∃ j, d ≤ j ∧ j ≤ d + 60 ∧ hB zs j) := fun d hd => by
            by_cases h1 : d + 61 ≤ i
            · exact HWI.out d h1
            · exact ⟨i, by omega, by omega, HY.out⟩
          clear hy
          go_wp2_with fail
          go_roundw
          case rel =>
            have Q : Oc1 len zs W0 (.int .i64 (0)) (.int .i64 ((i : Int) + 1)) W0 := ⟨⟨i + 1, 0, by have := HX.out; omega, by have := HCC.out; omega, by go_num, by go_num, .inr ⟨by omega, by rw [show i + 1 - 0 - 1 = i by omega]; exact HY.out⟩, HW.out, rfl⟩⟩
            first | exact Q | ((repeat apply Exists.intro); exact ⟨Q, rfl⟩)
          case measure => have := HX.out; simp [intOf]; omega
      · clear hlt
        have hy : hB zs i := .inl (by unfold hB0; rw [HV.out]; exact k0)
        have HY := Lib.hid hy
        have HW : Hid (∀ d, d + 61 ≤ i + 1 → ∃ j, d ≤ j ∧ j ≤ d + 60 ∧ hB zs j) := fun d hd => by
          by_cases h1 : d + 61 ≤ i
          · exact HWI.out d h1
          · exact ⟨i, by omega, by omega, HY.out⟩
        clear hy
        go_wp2_with fail
        go_roundw
        case rel =>
          have Q : Oc1 len zs W0 (.int .i64 (0)) (.int .i64 ((i : Int) + 1)) W0 := ⟨⟨i + 1, 0, by have := HX.out; omega, by have := HCC.out; omega, by go_num, by go_num, .inr ⟨by omega, by rw [show i + 1 - 0 - 1 = i by omega]; exact HY.out⟩, HW.out, rfl⟩⟩
          first | exact Q | ((repeat apply Exists.intro); exact ⟨Q, rfl⟩)
        case measure => have := HX.out; simp [intOf]; omega
    · have hiI : ¬ (i : Int) < (len : Int) := by omega
      have HGO : Hid (∀ i, i < len → out i ≤ 1 ∧ (hB zs i → out i = 1)) := HG.out fun d hd => HWI.out d (by omega)
      clear hlt hi HWI HCC
      go_wp2_with fail
      go_loopw [9] (fun iv wr => Oc2 len W0 iv wr) (fun i _ => len - (intOf i).toNat)
      case atStart => exact ⟨⟨0, Nat.zero_le _, rfl, rfl⟩⟩
      case round =>
        clear hiI
        obtain ⟨⟨i, hi, rfl, rfl⟩⟩ := hrel
        by_cases hlt : i < len
        · have HX : Hid (i < len) := hlt
          have hiI : (i : Int) < (len : Int) := by omega
          obtain ⟨b, off, hA, hcz⟩ := HZ0.out i (by omega)
          subst hA
          obtain ⟨zv, hzv⟩ : ∃ x, zs.getD i 0 = x := ⟨_, rfl⟩
          have e0 : W0.cell? ⟨b, off + i, none⟩ = some (.int .i64 zv) := by rw [← hzv]; exact hcz
          have HV : Hid (zs.getD i 0 = zv) := hzv
          clear hzv hcz
          obtain ⟨ov, hov⟩ : ∃ x, out i = x := ⟨_, rfl⟩
          have e1 : W0.cell? ⟨X, i, none⟩ = some (.int .i64 ov) := by rw [← hov]; exact HCX.out i (by have := HN.out; omega)
          have h300 : (i : Int) < 300 := by have := HN.out; omega
          have hle : ¬ ov > 1 := by rw [← hov]; have := (HGO.out i hlt).1; omega
          have hhb : ¬ zv.tmod 2 = 0 ∨ ¬ (zv / 2).tmod 2 = 0 → ov = 1 := fun h => by rw [← hov]; exact (HGO.out i hlt).2 (by unfold hB hB0 hB1; rw [HV.out]; exact h)
          have HHB := Lib.hid hhb
          clear hi hov hhb hlt
          by_cases k0 : zv.tmod 2 = 0
          · by_cases k1 : (zv / 2).tmod 2 = 0
            · go_wp2_with fail
              go_roundw
              case rel =>
                have Q : Oc2 len W0 (.int .i64 ((i : Int) + 1)) W0 := ⟨⟨i + 1, HX.out, by go_num, rfl⟩⟩
                first | exact Q | ((repeat apply Exists.intro); exact ⟨Q, rfl⟩)
              case measure => have := HX.out; simp [intOf]; omega
            · have ho := HHB.out (.inr k1)
              subst ho
              go_wp2_with fail
              go_roundw
              case rel =>
                have Q : Oc2 len W0 (.int .i64 ((i : Int) + 1)) W0 := ⟨⟨i + 1, HX.out, by go_num, rfl⟩⟩
                first | exact Q | ((repeat apply Exists.intro); exact ⟨Q, rfl⟩)
              case measure => have := HX.out; simp [intOf]; omega
          · have ho := HHB.out (.inl k0)
            subst ho
            go_wp2_with fail
            go_roundw
            case rel =>
              have Q : Oc2 len W0 (.int .i64 ((i : Int) + 1)) W0 := ⟨⟨i + 1, HX.out, by go_num, rfl⟩⟩
              first | exact Q | ((repeat apply Exists.intro); exact ⟨Q, rfl⟩)
            case measure => have := HX.out; simp [intOf]; omega
        · have hiI : ¬ (i : Int) < (len : Int) := by omega
          clear hlt hi
          go_wp2_with fail
          go_ret
          exact ⟨by simp [hl], HBW.out⟩
end Go.Proofs.Ytkbjonblflhkoaa.Ln
