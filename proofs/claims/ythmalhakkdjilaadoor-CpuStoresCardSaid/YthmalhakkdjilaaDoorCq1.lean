/-
  Contracts of the statements' clean, New and words. Each statement bears its own conditions.
-/
import Derived.Test.YthmalhakkdjilaaDoorCpS
import Derived.Test.YthmalhakkdjilaaDoorCp9
namespace Go.Proofs.YthmalhakkdjilaaDoor
open Go.RowKit
set_option linter.unusedVariables false
set_option linter.unusedSimpArgs false
set_option maxRecDepth 100000 in
set_option maxHeartbeats 8000000 in
theorem new_any (A A' : Option Addr) (p q n m c c' : Nat) (xs ys : List Int) (w : World) (h1 : Reads w w.heap.size 1 A n (CW xs)) (h2 : Reads w w.heap.size 1 A' m (CW ys)) (hp : min p 60 = n) (hq : min q 60 = m) (hc : n ≤ c) (hc' : m ≤ c') (hcm : c ≤ maxLen) (hcm' : c' ≤ maxLen) (hx : ∀ x ∈ xs, 0 ≤ x ∧ x < 4294967296) (hy : ∀ x ∈ ys, 0 ≤ x ∧ x < 4294967296) :
    Calls Tryd.prog 9 #[.slice A p c, .slice A' q c'] w fun e w' => ∃ gm, e = .returned (.pointer (some ⟨gm, 0, none⟩)) ∧ w.heap.size ≤ gm ∧ gm < w'.heap.size ∧ Below w.heap.size w w' ∧ ∀ ng : Nat → Prop, (∀ b, ng b → b < w.heap.size) → MM w' gm (.iface 31 (.pointer (some ⟨gm, 0, none⟩))) ⟨xs ++ ys, n, 0⟩ ng := by
  obtain ⟨i0, hinf, hz0, hz1, hz2⟩ := cinfo_of cu32_info
  have hxl : xs.length = n := by have := h1.1; rw [CW_len] at this; omega
  have hyl : ys.length = m := by have := h2.1; rw [CW_len] at this; omega
  unfold maxLen at hcm hcm'
  have H1 := Lib.hid h1
  have H2 := Lib.hid h2
  have HX := Lib.hid (And.intro hx hy)
  have HL := Lib.hid (And.intro hxl hyl)
  have hncI : (n : Int) ≤ c := by omega
  have hmcI : (m : Int) ≤ c' := by omega
  have hn : n ≤ 60 := by omega
  have hm : m ≤ 60 := by omega
  have hnI : (n : Int) ≤ 60 := by omega
  have hmI : (m : Int) ≤ 60 := by omega
  have hmin : min (p : Int) 60 = n := by omega
  have hmin' : min (q : Int) 60 = m := by omega
  clear hp hq
  clear h1 h2 hx hy hxl hyl
  go_enter Tryd.func9, Tryd.ntmps9
  go_wp2_with fail
  go_quiet (fail)
  generalize hW0 : w.drewN nq = W0
  have hsz : W0.heap.size = w.heap.size := by rw [← hW0]; rfl
  have hb0 : Below w.heap.size w W0 := by rw [← hW0]; exact below_drewN (Below.refl _ _) _
  have R1 : Hid (Reads (W0.alloc (.cells #[] 22)) W0.heap.size 1 A n (CW xs)) := by rw [hsz]; exact (H1.out.below hb0).alloc (by omega) _ |>.more (by omega)
  have R2 : Hid (Reads W0 W0.heap.size 1 A' m (CW ys)) := by rw [hsz]; exact H2.out.below hb0
  have HB0 := Lib.hid (And.intro hb0 hsz)
  clear hb0 hsz hW0 H1 H2
  go_wp2_with (at_builtin; refine wpList_append_any _ rfl (.tmp 15) (.tmp 16) _ rfl W0.heap.size 22 i0 (.int .u32 0) 1 4 Tryd.underlying29 hinf hz0 hz1 hz2 rfl (by decide) (.slice (some ⟨W0.heap.size, 0, none⟩) 0 0) 0 [] rfl (crow_empty 22 W0) W0.heap.size A n c (CW xs) rfl R1.out (CW_one _) ?c2 ?c3 ?c4 ?_)
  case c2 => unfold maxLen; omega
  case c3 => omega
  case c4 => simp
  intro v1 w2 hown hgr hbl
  have ho1 : w2.ownsRow W0.heap.size 22 1 v1 n (CW xs) := by simpa using hown
  have hb2 : Below W0.heap.size W0 w2 := ((Below.refl _ _).alloc (Nat.le_refl _) _).grown hgr (by simp) (fun q hq => by have h' : some W0.heap.size = some q := hq; injection h' with h'; omega)
  have R3 : Hid (Reads w2 W0.heap.size 1 A' m (CW ys)) := (R2.out.below hb2).keep fun p hp => rfl
  have HO1 := Lib.hid ho1
  have HB2 := Lib.hid hb2
  clear hown hgr hbl ho1 hb2 R1 R2
  go_wp2_with (at_builtin; refine wpList_append_any _ rfl (.tmp 17) (.tmp 18) _ rfl W0.heap.size 22 i0 (.int .u32 0) 1 4 Tryd.underlying29 hinf hz0 hz1 hz2 rfl (by decide) v1 n (CW xs) rfl HO1.out W0.heap.size A' m c' (CW ys) rfl R3.out (CW_one _) ?d2 ?d3 ?d4 ?_)
  case d2 => unfold maxLen; omega
  case d3 => omega
  case d4 => exact HB2.out.size
  intro v2 w3 hown hgr hbl
  have hb3 : Below W0.heap.size W0 w3 := HB2.out.grown hgr HB2.out.size (fun q hq => (HO1.out.lt q hq).1)
  have hlen : (xs ++ ys).length = n + m := by rw [List.length_append, HL.out.1, HL.out.2]
  have ho2 : w3.ownsRow W0.heap.size 22 1 v2 (xs ++ ys).length (CW (xs ++ ys)) := by rw [hlen]; simpa [CW] using hown
  obtain ⟨A2, c2, rfl⟩ := slice_form ho2
  rw [hlen] at ho2 hown ⊢
  have HO2 := Lib.hid ho2
  have HB3 := Lib.hid hb3
  have HLEN := Lib.hid hlen
  clear hown hgr hbl ho2 hb3 hlen R3 HO1 HB2
  obtain ⟨nm, hnm⟩ : ∃ nm, n + m = nm := ⟨_, rfl⟩
  rw [hnm] at HO2 HLEN ⊢
  have HNM : Hid (nm ≤ 120) := by unfold Hid; omega
  clear hnm
  have HX4 := Lib.hid (heap_alloc_new w3 (.cells #[.slice A2 nm c2, .int .i64 n, .int .i64 0] 43))
  go_wp2_with fail
  go_ret
  have hlt : W0.heap.size ≤ w3.heap.size := HB3.out.size
  refine ⟨w3.heap.size, rfl, by have := HB0.out.2; omega, by simp, HB0.out.1.trans ((HB3.out.alloc hlt _).mono (by have := HB0.out.2; omega)), fun ng hng => ?_⟩
  refine ⟨⟨_, rfl, HX4.out, fun h => by have := hng _ h; have := HB0.out.2; omega, ?_⟩, ?_, ?_, ?_, ?_⟩
  · have ho := HO2.out
    have hl' := HLEN.out
    rw [← hl'] at ho ⊢
    refine (SlW.of_own (ng := fun b => b = w3.heap.size ∨ ng b) ho (fun b h1 h2 h => ?_)).keep (by simp) (fun b hb _ => heap_alloc_old w3 _ hb) (fun _ _ h => h)
    rcases h with h | h
    · omega
    · have := hng _ h; have := HB0.out.2; omega
  · have := HLEN.out; have := HNM.out; dsimp only; omega
  · intro x hx
    rcases List.mem_append.1 hx with h | h
    · exact HX.out.1 x h
    · exact HX.out.2 x h
  · exact hn
  · dsimp only; omega
structure CleanR (g1 g2 : Nat) (w : World) (v : Value) (wr : World) : Prop where
  ex : ∃ (i : Int) (r : List Int), v = .int .i64 i ∧ 0 ≤ i ∧ i ≤ 9223372036854775807 ∧ RegOk r ∧ RB wr g1 r [] 28 ∧ RB wr g2 R0 [] 28 ∧ Below w.heap.size w wr
set_option maxRecDepth 100000 in
set_option maxHeartbeats 8000000 in
theorem clean_any (r : List Int) (w : World) (hr : RegOk r) : Calls Tryd.prog 8 #[.agg (cells r).toArray] w fun e w' => ∃ r', e = .returned (.agg (cells r').toArray) ∧ RegOk r' ∧ Below w.heap.size w w' := by
  obtain ⟨W1, hW1⟩ : ∃ W1, w.alloc (.cells (cells r).toArray 28) = W1 := ⟨_, rfl⟩
  obtain ⟨g1, hg1⟩ : ∃ g1, w.heap.size = g1 := ⟨_, rfl⟩
  have h1 : RB W1 g1 r [] 28 := by rw [← hW1, ← hg1]; exact RB.new _ _ _
  have b1 : Below w.heap.size w W1 := by rw [← hW1]; exact (Below.refl _ _).alloc (Nat.le_refl _) _
  obtain ⟨W2, hW2⟩ : ∃ W2, W1.alloc (.cells #[.int .u32 0, .int .u32 0, .int .u32 0, .int .u32 0, .int .u32 0, .int .u32 0, .int .u32 0, .int .u32 0, .int .u32 0, .int .u32 0, .int .u32 0, .int .u32 0, .int .u32 0, .int .u32 0, .int .u32 0, .int .u32 0, .int .u32 0, .int .u32 0, .int .u32 0, .int .u32 0, .int .u32 0, .int .u32 0, .int .i64 0, .int .u32 0, .int .u32 0, .int .i64 0, .int .u32 0, .int .u32 0, .int .i64 0, .int .u32 0, .int .u32 0, .int .i64 0, .int .u32 0, .int .u32 0, .int .i64 0, .int .u32 0, .int .u32 0, .int .i64 0, .int .u32 0, .int .u32 0, .int .i64 0, .int .u32 0, .int .u32 0, .int .i64 0, .int .i64 0] 28) = W2 := ⟨_, rfl⟩
  obtain ⟨g2, hg2⟩ : ∃ g2, W1.heap.size = g2 := ⟨_, rfl⟩
  have h2 : RB W2 g2 R0 [] 28 := by rw [← hW2, ← hg2]; exact RB.zero _ _
  have b12 : Below W1.heap.size W1 W2 := by rw [← hW2]; exact (Below.refl _ _).alloc (Nat.le_refl _) _
  have h12 := h1.below b12
  have b2 : Below w.heap.size w W2 := b1.trans (b12.mono b1.size)
  have hl := hr.len
  obtain ⟨dp, hdp⟩ : ∃ dp, r.getD 44 0 = dp := ⟨_, rfl⟩
  have hd := hr.dep
  have i44 := h12.cellk (o := 44) (by omega) kd_dep
  rw [hdp] at i44 hd
  obtain ⟨I0, hI0⟩ : ∃ I0, max dp 0 = I0 := ⟨_, rfl⟩
  have HNE : Hid (g1 ≠ g2 ∧ w.heap.size = g1 ∧ g1 ≤ g2) := ⟨by have := h1.lt; omega, hg1, by have := h1.lt; omega⟩
  have HR0 : Hid (CleanR g1 g2 w (.int .i64 I0) W2) := ⟨⟨I0, r, rfl, by omega, by omega, hr, h12, h2, b2⟩⟩
  clear h1 b1 h2 b12 h12 b2 hl hd hdp hr
  go_enter Tryd.func8, Tryd.ntmps8
  go_wp2_with fail
  clear hW1 hW2 hg1 hg2 i44 hI0
  go_loopw [3] (fun v wr => CleanR g1 g2 w v wr) (fun v => fun _ => (8 - intOf v).toNat)
  case atStart => exact HR0.out
  case round =>
    obtain ⟨⟨i, r', rfl, hi0, hi1, hr, hz1, hz2, hb⟩⟩ := hrel
    have HRO := Lib.hid hr
    have HLN := Lib.hid hr.len
    have HZ1 := Lib.hid hz1
    have HZ2 := Lib.hid hz2
    have HB := Lib.hid hb
    clear hr hz1 hz2 hb HR0
    by_cases hlt : i < 8
    · obtain ⟨d, rfl⟩ : ∃ d : Nat, i = (d : Int) := ⟨i.toNat, by omega⟩
      have hd8 : d < 8 := by omega
      have HD8 := Lib.hid hd8
      have hd0 : (0 : Int) ≤ d := by omega
      obtain ⟨W3, hW3⟩ : ∃ W3, wr.setCells g1 (20 + d * 3) [.int .u32 0, .int .u32 0, .int .i64 0] = W3 := ⟨_, rfl⟩
      have HR3 : Hid (RB W3 g1 (((r'.set (20 + d * 3) 0).set (20 + d * 3 + 1) 0).set (20 + d * 3 + 2) 0) [] 28) := by rw [← hW3]; exact HZ1.out.setLoop HLN.out hd8 0 0 0
      have HP3 : Hid (Past g1 wr W3) := by rw [← hW3]; exact past_setCells _ _ _ _
      have HRO3 : Hid (RegOk (((r'.set (20 + d * 3) 0).set (20 + d * 3 + 1) 0).set (20 + d * 3 + 2) 0)) := by
        rw [Nat.mul_comm d 3]
        exact ((HRO.out.set _ 0 (by rw [kd_from hd8]; exact ⟨by omega, by omega⟩)).set _ 0 (by rw [kd_end hd8]; exact ⟨by omega, by omega⟩)).set _ 0 (by rw [kd_left hd8]; exact ⟨by omega, by omega⟩)
      have HE := Lib.hid hW3
      have hk1 : wrap64 ((d : Int) + 1) = (d : Int) + 1 := IntWalk.wrap64_in _ (by omega)
      clear hW3 hd8 hi0 hi1
      go_upto_region 3 with (refine wpList_store_loop rfl _ _ rfl rfl rfl HZ1.out HLN.out HD8.out ?_; dsimp only [Act.put])
      rw [HE.out]
      go_wp2_with fail
      go_roundw
      case rel =>
        have Q : CleanR g1 g2 w (.int .i64 ((d : Int) + 1)) W3 :=
          ⟨⟨(d : Int) + 1, _, rfl, by omega, by have := HD8.out; omega, HRO3.out, HR3.out, HZ2.out.keep (HP3.out.block g2 HZ2.out.lt (fun e => HNE.out.1 e.symm)), HB.out.trans (HP3.out.below (by rw [HNE.out.2.1]; exact Nat.le_refl _) HB.out.size)⟩⟩
        first | exact Q | (rw [hk1]; exact Q) | (simp only [hk1]; exact Q)
      case measure =>
        try rw [hk1]
        show (8 - ((d : Int) + 1)).toNat < (8 - (d : Int)).toNat
        clear hk1
        omega
    · have h6 := Lib.hid (HZ2.out.store r' HLN.out)
      clear hi0 hi1
      go_wp2_with (first | (refine wpList_load_regs rfl _ rfl rfl HZ1.out HLN.out ?_) | (refine wpList_store_regs rfl _ _ rfl rfl rfl HZ2.out r0_len HLN.out ?_))
      refine bodyPost_ret (results_regs rfl _ _ g2 r' _ _ HLN.out rfl h6.out) rfl ⟨r', rfl, HRO.out, ?_⟩
      exact HB.out.trans ((past_setCells g2 _ _ _).below (by have := HNE.out; omega) HB.out.size)
structure WordsR (n : Nat) (w : World) (v : Value) (wr : World) : Prop where
  ex : ∃ k : Nat, v = .int .i64 (k : Int) ∧ k ≤ n ∧ Below w.heap.size w wr
set_option maxRecDepth 100000 in
set_option maxHeartbeats 8000000 in
theorem words_any (v v' : Value) (xs : List Int) (ng ng' : Nat → Prop) (w : World) (h : SlW w v xs ng) (h' : SlW w v' xs ng') (hl : xs.length ≤ 120) : Calls Tryd.prog 13 #[v, v'] w fun e w' => e = .returned (.bool true) ∧ Below w.heap.size w w' := by
  obtain ⟨A, cap, rfl, hc⟩ := h.ex
  obtain ⟨A', cap', rfl, hc'⟩ := h'.ex
  obtain ⟨n, hn⟩ : ∃ n, xs.length = n := ⟨_, rfl⟩
  rw [hn] at hc hc' hl ⊢
  have HC := Lib.hid (And.intro hc hc')
  have HL := Lib.hid hl
  clear h h' hc hc' hl hn
  go_enter Tryd.func13, Tryd.ntmps13
  go_wp2_with fail
  go_loopw [5] (fun v wr => WordsR n w v wr) (fun v => fun _ => n - (intOf v).toNat)
  case atStart => exact ⟨⟨0, rfl, Nat.zero_le _, Below.refl _ _⟩⟩
  case round =>
    obtain ⟨⟨k, rfl, hk, hb⟩⟩ := hrel
    have HB := Lib.hid hb
    have HK := Lib.hid hk
    clear hb hk
    by_cases hlt : k < n
    · have hkI : (k : Int) < (n : Int) := by omega
      have HKX : Hid (k < n) := hlt
      obtain ⟨rb, off, rfl, _, _, hd⟩ := HC.out.1 (by omega)
      obtain ⟨rb', off', rfl, _, _, hd'⟩ := HC.out.2 (by omega)
      obtain ⟨x, hx⟩ : ∃ x, xs.getD k 0 = x := ⟨_, rfl⟩
      have d0 : wr.cell? ⟨rb, off + k, none⟩ = some (.int .u32 x) := by rw [← hx]; exact cell_later HB.out (hd k hlt)
      have d1 : wr.cell? ⟨rb', off' + k, none⟩ = some (.int .u32 x) := by rw [← hx]; exact cell_later HB.out (hd' k hlt)
      have hk1 : wrap64 ((k : Int) + 1) = (k : Int) + 1 := IntWalk.wrap64_in _ (by have := HL.out; omega)
      clear hd hd' hx hlt
      go_upto_region 6 with (fail)
      go_quiet (fail)
      have HBN : Hid (Below w.heap.size w (wr.drewN nq)) := below_drewN HB.out _
      generalize wr.drewN nq = Wn at HBN ⊢
      clear d0 d1
      go_wp2_with fail
      go_roundw
      case rel =>
        have Q : WordsR n w (.int .i64 ((k : Int) + 1)) Wn := ⟨⟨k + 1, by go_num, HKX.out, HBN.out⟩⟩
        first | exact Q | (rw [hk1]; exact Q) | (simp only [hk1]; exact Q)
      case measure =>
        have := HKX.out
        rw [hk1]
        show n - ((k : Int) + 1).toNat < n - (k : Int).toNat
        clear hk1
        omega
    · have hkn : k = n := by have := HK.out; omega
      clear hlt
      subst hkn
      go_wp2_with fail
      go_ret
      exact ⟨rfl, HB.out⟩
end Go.Proofs.YthmalhakkdjilaaDoor
