/-
  LinkOnce's walk. Each statement bears its own conditions.
-/
import Derived.Test.YtkbjonblflhkoaaLnQb
import Derived.Laws.Rows
import Derived.Deep.WholeRow
namespace Go.Proofs.Ytkbjonblflhkoaa.Ln
open Go.RowKit Go.Proofs.Ytkbjonblflhkoaa.F Go.Proofs.Ytkbjonblflhkoaa.U Go.Proofs.Ytkbjonblflhkoaa.Q
set_option linter.unusedVariables false
set_option linter.unusedSimpArgs false
theorem one_sq {w : World} {b off i : Nat} {x : Int} {c : Nat} {p : Nat → Prop} (hb : b < w.heap.size) (hp : p b) (hc : w.cell? ⟨b, off + i, none⟩ = some (.int .u32 x)) : Sq w p (.slice (some ⟨b, off + i, none⟩) 1 c) 1 (CU [x]) :=
  ⟨_, _, rfl, rfl, fun _ => ⟨b, off + i, rfl, hb, hp, fun j u hu => by
    match j, hu with
    | 0, hu => simp [CU] at hu; subst hu; exact hc
    | j + 1, hu => simp [CU] at hu⟩⟩
theorem zero300 : ∃ C0 : Array Value, C0.size = 300 ∧ (∀ i, i < 300 → C0[i]? = some (.int .i64 0)) ∧ (∀ w, (zeroValue 63).run Try.prog w = .ok (.agg C0) w) ∧ (Try.prog.info? 63).map (·.size) = some 300 := by
  obtain ⟨h1, h2⟩ := zero_of_info (P := Try.prog) (t := 63) (v := .agg (Array.replicate 300 (.int .i64 0))) (n := 300) (by kernel_rfl)
  exact ⟨_, by simp, fun i hi => by simp [Array.getElem?_replicate, hi], h1, h2⟩
structure OIn (n lag lo : Nat) (zs : List Int) (w0 : World) (gr Ob t : Nat) (kv : Value) (wr : World) : Prop where
  ex : (kv = .int .i64 0 ∧ OO n lag lo zs w0 gr Ob t 0 wr) ∨ (kv = .int .i64 1 ∧ OO n lag lo zs w0 gr Ob t 1 wr) ∨ (kv = .int .i64 2 ∧ OO n lag lo zs w0 gr Ob (t + 1) 0 wr)
structure OOut (n lag lo : Nat) (zs : List Int) (w0 : World) (gr Ob : Nat) (tv : Value) (wr : World) : Prop where
  ex : ∃ t : Nat, t ≤ n + lag ∧ tv = .int .i64 (t : Int) ∧ OO n lag lo zs w0 gr Ob t 0 wr
set_option maxRecDepth 100000 in
set_option maxHeartbeats 32000000 in
theorem once_walk (a : Option Addr) (len cap : Nat) (zs : List Int) (lag0 : Int) (w : World) (h1 : IsRow .i64 w a len cap zs) : Calls Try.prog 6 #[.slice a len cap, .int .i64 lag0] w fun e w' => e = .returned (.bool true) ∧ Below w.heap.size w w' := by
  have he1 := he_re
  obtain ⟨lo, hlo⟩ : ∃ lo, w.heap.size = lo := ⟨_, rfl⟩
  have HLO := Lib.hid hlo
  have H1 := Lib.hid h1
  obtain ⟨n, hn⟩ : ∃ n : Nat, min len 300 = n := ⟨_, rfl⟩
  have HN : Hid (n ≤ len ∧ n ≤ 300 ∧ n ≤ zs.length ∧ len ≤ cap) := by have := h1.le; unfold Hid; omega
  have hmin : min (len : Int) 300 = (n : Int) := by omega
  obtain ⟨lq, hlq⟩ : ∃ x, (IntKind.u64.wrap lag0).tmod 61 = x := ⟨_, rfl⟩
  have b1 := u64_tmod lag0 61 (by decide)
  rw [hlq] at b1
  obtain ⟨lag, hlag⟩ : ∃ x : Nat, (x : Int) = lq := ⟨lq.toNat, by omega⟩
  subst hlag
  have HL : Hid (lag ≤ 60) := by unfold Hid; omega
  have v1 : IntKind.i64.wrap (lag : Int) = (lag : Int) := IntWalk.i64_in _ ⟨by omega, by omega⟩
  obtain ⟨C0, z1, z2, hz, z4⟩ := zero300
  have HC0 : Hid (C0.size = 300 ∧ ∀ i, i < 300 → C0[i]? = some (.int .i64 0)) := ⟨z1, z2⟩
  have NW := Lib.hid (newr_any 1 w (by omega))
  rw [hlo] at NW ⊢
  clear h1 hlo b1 z1 z2 z4 hn
  go_enter Try.func6, Try.ntmps6
  go_wp2_with fail
  refine NW.out.mono ?_
  rintro e w1 ⟨rfl, q1, b1⟩
  have Q1 : Hid (RV w1 lo ⟨1, 255, 18446744073709551615, 0⟩) := q1
  have B1 : Hid (Below lo w w1) := b1
  clear q1 b1 NW
  go_wp2_with fail
  refine (told_any w1).mono ?_
  rintro e w2 ⟨rfl, b2⟩
  have Q2 := Lib.hid (Q1.out.below b2)
  have B2 : Hid (Below lo w w2) := B1.out.trans (b2.mono (by have := Q1.out.lt; omega))
  clear b2 Q1 B1
  have hx : Below w2.heap.size w2 (w2.alloc (.cells C0 63)) := (Below.refl _ _).alloc (Nat.le_refl _) _
  obtain ⟨Ob, hOb⟩ : ∃ b, w2.heap.size = b := ⟨_, rfl⟩
  obtain ⟨w3, hw3⟩ : ∃ W, w2.alloc (.cells C0 63) = W := ⟨_, rfl⟩
  have HB3 : Hid (OB w3 Ob C0 (fun _ => 0)) := ⟨by rw [← hw3, ← hOb]; exact heap_alloc_new _ _, HC0.out.1, HC0.out.2⟩
  rw [hw3] at hx
  have Q3 := Lib.hid (Q2.out.below hx)
  have B3 : Hid (Below lo w w3) := B2.out.trans (hx.mono (by have := Q2.out.lt; omega))
  have HD3 : Hid (lo ≠ Ob ∧ lo ≤ Ob) := by have := Q2.out.lt; unfold Hid; omega
  have HO3 : Hid (OO n lag lo zs w lo Ob 0 0 w3) := ⟨_, -1, _, C0, Q3.out, HB3.out, fun i => by simp, by simp, HD3.out.1, Nat.le_refl _, HD3.out.2, B3.out, fun _ => ⟨OnS.start _ fun _ => rfl, OnP.start _ _ _ _ _ fun _ => rfl⟩⟩
  clear hx Q2 B2 Q3 B3 HB3 HC0 HD3
  go_upto_block 0 with fail
  try simp only [hw3]
  try simp only [hOb]
  go_wp2_with fail
  have hn300 : (n : Int) ≤ 300 := by have := HN.out; omega
  have hl60 : (lag : Int) ≤ 60 := by have := HL.out; omega
  clear hw3 hOb hmin v1 hlq
  go_loopw [10] (fun tv wr => OOut n lag lo zs w lo Ob tv wr) (fun t _ => n + lag - (intOf t).toNat)
  case atStart => exact ⟨⟨0, Nat.zero_le _, rfl, HO3.out⟩⟩
  case round =>
    clear HO3 hz
    obtain ⟨⟨t, ht, rfl, ho⟩⟩ := hrel
    have HO := Lib.hid ho
    clear ho
    by_cases hlt : t < n + lag
    rotate_left
    · have htt : t = n + lag := by omega
      subst htt
      have g0 : ¬ ((n + lag : Nat) : Int) < (n : Int) + (lag : Int) := by omega
      obtain ⟨r, N, out, C, hr, hob, hou, hlo, hne, hl1, hl2, hbe, hg⟩ := HO.out.ex
      have HE : Hid (GapOk n (hB zs) → ∀ i, i < n → out i ≤ 1 ∧ (hB zs i → out i = 1)) := fun g => (hg g).2.done (hg g).1
      have HOB := Lib.hid hob
      have HBE := Lib.hid hbe
      clear HO hr hob hou hlo hne hl1 hl2 hbe hg hlt ht
      have OC : Hid (∀ W, Below wr.heap.size wr W → Calls Try.prog 22 #[.slice a n cap, .agg C, .int .i64 (lag : Int)] W fun e w' => e = .returned (.bool true) ∧ Below W.heap.size W w') := fun W hb => once_any a n cap zs C out (lag : Int) W (fun i hi => by
        obtain ⟨b, off, hA, hbl, hc⟩ := row_at H1.out (show 0 < len by have := HN.out; omega)
        exact ⟨b, off, hA, cell_later hb ((HBE.out.cell (by show b < lo; have := HLO.out; omega)).trans (hc i (by have := HN.out; omega)).1)⟩) (by have := HN.out; omega) HOB.out.sz HOB.out.ce (by have := HL.out; omega) HE.out
      have hnc : n ≤ cap := by have := HN.out; omega
      go_upto_region 20 with fail
      refine wp_region_held_drew (S := (fun w' => Below wr.heap.size wr w' ∧ w'.heap[Ob]? = some (.cells C 63 (0, 0)))) (by kernel_rfl) ?_ (fun hHeld => ?_)
      · exact ⟨(Below.refl _ _).drew, HOB.out.hb⟩
      refine takeD (i := 0) (d := some 95) (v := ?_) _ rfl rfl (by kernel_rfl) (by kernel_rfl) (by kernel_rfl) (fun _ _ _ h => h) (by rfl) ?_ (by assumption) ?_
      rotate_left
      · (intro w hSw; (try dsimp only at hSw); go_simp) <;> with_reducible rfl
      try simp only [Act.put, List.setIfInBounds_toArray, List.set_cons_zero, List.set_cons_succ]
      refine takeD (i := 1) (d := some 96) (v := ?_) _ rfl rfl (by kernel_rfl) (by kernel_rfl) (by kernel_rfl) (fun _ _ _ h => h) (by rfl) ?_ (by assumption) ?_
      rotate_left
      · (intro w hSw; (try dsimp only at hSw); go_simp) <;> with_reducible rfl
      try simp only [Act.put, List.setIfInBounds_toArray, List.set_cons_zero, List.set_cons_succ]
      refine takeD (i := 2) (d := some 97) (v := ?_) _ rfl rfl (by kernel_rfl) (by kernel_rfl) (by kernel_rfl) (fun _ _ _ h => h) (by rfl) ?_ (by assumption) ?_
      rotate_left
      · (intro w hSw; (try dsimp only at hSw); go_simp) <;> with_reducible rfl
      try simp only [Act.put, List.setIfInBounds_toArray, List.set_cons_zero, List.set_cons_succ]
      refine takeD (i := 3) (d := some 98) (v := ?_) _ rfl rfl (by kernel_rfl) (by kernel_rfl) (by kernel_rfl) (fun _ _ _ h => h) (by rfl) ?_ (by assumption) ?_
      rotate_left
      · intro w hSw
        have hu : Try.prog.underlying 63 = some (.array 300 3) := by kernel_rfl
        obtain ⟨_, _, _, _, z4⟩ := zero300
        have hi : (Try.prog.info? 63).map (·.size) = some C.size := by rw [HOB.out.sz]; exact z4
        have hl := run_loadVar_row w Ob 63 63 C (0, 0) _ hSw.2 hu rfl hi
        clear z4 hi hu
        have hL : (Instr.loadAt 63 (.pointer (some ⟨Ob, 0, none⟩))).run Try.prog w = .ok (.agg C) w := by simp only [Instr.loadAt, Instr.sureAddr, Sem.run_bind, Sem.run_pure, Result.andThen_ok, hl]
        change Sem.run Try.prog (Instr.loadAt 63 (.pointer (some ⟨Ob, 0, none⟩)) >>= fun v => pure (Next.value v)) w = _
        rw [Sem.run_bind, hL]
        rfl
      try simp only [Act.put, List.getElem_toArray, List.getElem_cons_succ, List.getElem_cons_zero, List.setIfInBounds_toArray, List.set_cons_zero, List.set_cons_succ]
      refine takeD (i := 4) (d := some 99) (v := ?_) _ rfl rfl (by kernel_rfl) (by kernel_rfl) (by kernel_rfl) (fun _ _ _ h => h) (by rfl) ?_ (by assumption) ?_
      rotate_left
      · (intro w hSw; (try dsimp only at hSw); go_simp) <;> with_reducible rfl
      try simp only [Act.put, List.setIfInBounds_toArray, List.set_cons_zero, List.set_cons_succ]
      refine wpAnyH_ready (rs := [5]) (by kernel_rfl) (by simp) ?_
      refine AllReadyH.cons rfl (fun K0 hK => ?_) (AllReadyH.nil)
      try go_simp
      go_at_call 22
      refine (OC.out _ hHeld.1).mono ?_
      rintro e w6 ⟨rfl, b6⟩
      have hh : Below wr.heap.size wr w6 ∧ w6.heap[Ob]? = some (.cells C 63 (0, 0)) := ⟨hHeld.1.trans (b6.mono hHeld.1.size), (b6.block _ (Array.getElem?_eq_some_iff.1 hHeld.2).1).trans hHeld.2⟩
      clear hHeld b6
      try go_wp2_with fail
      refine hK.out _ _ hh (fun hHeld => ?_)
      clear hh
      clear hK K0
      try simp only [Act.put, List.getElem_toArray, List.getElem_cons_succ, List.getElem_cons_zero, List.setIfInBounds_toArray, List.set_cons_zero, List.set_cons_succ]
      refine takeD (i := 6) (d := some 4) (v := ?_) _ rfl rfl (by kernel_rfl) (by kernel_rfl) (by kernel_rfl) (fun _ _ _ h => h) (by rfl) ?_ (by assumption) ?_
      rotate_left
      · (intro w hSw; (try dsimp only at hSw); go_simp) <;> with_reducible rfl
      try simp only [Act.put, List.setIfInBounds_toArray, List.set_cons_zero, List.set_cons_succ]
      refine wpAnyH_done (by kernel_rfl) ?_ _
      have HBF : Hid (Below lo w w6) := HBE.out.trans (hHeld.1.mono (by have := HBE.out.size; have := HLO.out; omega))
      clear hHeld OC HE HOB HBE
      go_wp2_with fail
      go_ret
      exact ⟨rfl, HBF.out⟩
    have HT : Hid (t < n + lag) := hlt
    have g0 : (t : Int) < (n : Int) + (lag : Int) := by omega
    clear hlt ht
    go_wp2_with fail
    go_loopw [11] (fun kv wr => OIn n lag lo zs w lo Ob t kv wr) (fun k _ => 2 - (intOf k).toNat)
    case atStart => exact ⟨.inl ⟨rfl, HO.out⟩⟩
    case round =>
      clear HO
      obtain ⟨⟨rfl, ho⟩ | ⟨rfl, ho⟩ | ⟨rfl, ho⟩⟩ := hrel
      rotate_left
      rotate_left
      · have HO := Lib.hid ho
        clear ho
        go_wp2_with fail
        go_roundw
        case rel =>
          have Q : OOut n lag lo zs w lo Ob (.int .i64 ((t : Int) + 1)) wr := ⟨⟨t + 1, by have := HT.out; omega, by go_num, HO.out⟩⟩
          first | exact Q | ((repeat apply Exists.intro); exact ⟨Q, rfl⟩)
        case measure => have := HT.out; simp [intOf]; omega
      · have HO := Lib.hid ho
        clear ho
        by_cases hdn : t < n
        rotate_left
        · have g1 : (t : Int) ≥ (n : Int) := by omega
          have g2 : ¬ (t : Int) < 0 := by omega
          have HDN := Lib.hid hdn
          clear hdn
          have HQ : Hid (OO n lag lo zs w lo Ob t 1 wr) := by
            obtain ⟨r, N, out, C, hr, hob, hou, hlo, hne, hl1, hl2, hbe, hg⟩ := HO.out.ex
            exact ⟨r, N, out, C, hr, hob, fun i => ⟨(hou i).1, by have := (hou i).2; push_cast at this ⊢; omega⟩, by push_cast at hlo ⊢; omega, hne, hl1, hl2, hbe, fun g => ⟨(hg g).1, (hg g).2.no0 (fun h => absurd h HDN.out)⟩⟩
          clear HO
          go_wp2_with fail
          go_roundw
          case rel =>
            have Q : OIn n lag lo zs w lo Ob t (.int .i64 1) wr := ⟨.inr (.inl ⟨rfl, HQ.out⟩)⟩
            first | exact Q | ((repeat apply Exists.intro); exact ⟨Q, rfl⟩)
          case measure => simp [intOf]
        have g1 : ¬ (t : Int) ≥ (n : Int) := by omega
        have g2 : ¬ (t : Int) < 0 := by omega
        have HDN := Lib.hid hdn
        have hd300 : (t : Int) < 300 := by omega
        obtain ⟨b, off, hA, hbl, hc⟩ := row_at H1.out (show 0 < len by have := HN.out; omega)
        subst hA
        obtain ⟨zv, hzv⟩ : ∃ x, zs.getD t 0 = x := ⟨_, rfl⟩
        have hbe : Below lo w wr := by obtain ⟨r, N, out, C, hr, hob, hou, hlo, hne, hl1, hl2, hbe, hg⟩ := HO.out.ex; exact hbe
        have e0 : wr.cell? ⟨b, off + t, none⟩ = some (.int .i64 zv) := by rw [← hzv]; exact (hbe.cell (by show b < lo; have := HLO.out; omega)).trans (hc t (by have := HN.out; omega)).1
        have HV : Hid (zs.getD t 0 = zv) := hzv
        have hdl : (t : Int) < (len : Int) := by have := HN.out; omega
        have hdlN : t < len := by have := HN.out; omega
        clear hzv hc hbl hbe hdn
        by_cases k0 : zv.tmod 2 = 0
        · have HK0 := Lib.hid k0
          have HQ : Hid (OO n lag lo zs w lo Ob t 1 wr) := by
            obtain ⟨r, N, out, C, hr, hob, hou, hlo, hne, hl1, hl2, hbe, hg⟩ := HO.out.ex
            exact ⟨r, N, out, C, hr, hob, fun i => ⟨(hou i).1, by have := (hou i).2; push_cast at this ⊢; omega⟩, by push_cast at hlo ⊢; omega, hne, hl1, hl2, hbe, fun g => ⟨(hg g).1, (hg g).2.no0 (fun _ h => h (by rw [HV.out]; exact HK0.out))⟩⟩
          clear HO
          go_wp2_with fail
          go_roundw
          case rel =>
            have Q : OIn n lag lo zs w lo Ob t (.int .i64 1) wr := ⟨.inr (.inl ⟨rfl, HQ.out⟩)⟩
            first | exact Q | ((repeat apply Exists.intro); exact ⟨Q, rfl⟩)
          case measure => simp [intOf]
        have HY : Hid (hB0 zs t) := by unfold Hid hB0; rw [HV.out]; exact k0
        have hwd : IntKind.u32.wrap (t : Int) = (t : Int) := by rw [IntKind.wrap_u32]; omega
        have hm6 : (t : Int).tmod 256 = (t : Int) % 256 := Int.tmod_eq_emod_of_nonneg (by omega)
        have HM6 := Lib.hid hm6
        have hx : Below wr.heap.size wr (wr.alloc (.cells #[.int .u32 (t : Int)] 47)) := (Below.refl _ _).alloc (Nat.le_refl _) _
        have hnw : (wr.alloc (.cells #[.int .u32 (t : Int)] 47)).heap[wr.heap.size]? = some (.cells #[.int .u32 (t : Int)] 47 (0, 0)) := heap_alloc_new _ _
        have hsz : (wr.alloc (.cells #[.int .u32 (t : Int)] 47)).heap.size = wr.heap.size + 1 := by simp
        clear hm6
        go_wp2_with fail
        obtain ⟨X1, hX1⟩ : ∃ b, wr.heap.size = b := ⟨_, rfl⟩
        obtain ⟨wA, hwA⟩ : ∃ W, wr.alloc (.cells #[.int .u32 (t : Int)] 47) = W := ⟨_, rfl⟩
        rw [hwA] at hx hnw hsz
        rw [hX1] at hnw
        rw [hwA, hX1]
        obtain ⟨r, N, out, C, hr, hob, hou, hlo, hne, hl1, hl2, hbe, hg⟩ := HO.out.ex
        have SQ : Sq wA (fun b => b = X1) (.slice (some ⟨X1, 0, none⟩) 1 1) 1 (CU [(t : Int)]) := one_sq (off := 0) (i := 0) (by omega) rfl (by rw [(row_cell hnw 0).1]; rfl)
        have TA := take_any lo r 0 ((t : Int).tmod 256) (fun b => b = X1) (some ⟨X1, 0, none⟩) 1 1 [(t : Int)] wA (hr.below hx) SQ (fun e => by have := hr.lt; omega) (by have := HT.out; have := HN.out; have := HL.out; push_cast at hlo; omega)
        have HOBA := Lib.hid (hob.below hx)
        have HBA : Hid (Below lo w wA) := hbe.trans (hx.mono (by have := hr.lt; omega))
        have HNE : Hid (lo ≠ Ob ∧ lo ≤ Ob) := ⟨hne, hl2⟩
        have HSZ : Hid (lo < wA.heap.size) := by have := hr.lt; unfold Hid; omega
        have HLS : Hid ((tkR r 0 ((t : Int).tmod 256) 1).lost ≤ 127 * (2 * (t : Int) + 1)) := by have := tkR_lost r 0 ((t : Int).tmod 256) 1; unfold Hid; push_cast at hlo ⊢; omega
        have HOU : Hid (∀ i, 0 ≤ out i ∧ out i + 1 ≤ 2 * (t : Int) + 1) := fun i => ⟨(hou i).1, by have := (hou i).2; push_cast at this ⊢; omega⟩
        have HGG := Lib.hid hg
        clear hx hnw hsz hX1 hwA hr hob hou hlo hne hl1 hl2 hbe hg SQ
        by_cases hE : tkE r 0 ((t : Int).tmod 256) 1 = 0
        · have hWW : tkW r 0 ((t : Int).tmod 256) 1 [(t : Int)] = [(t : Int)] := by unfold tkW; rw [if_pos hE]
          have TK : Hid (Calls Try.prog 20 #[.pointer (some ⟨lo, 0, none⟩), .int .i64 0, .agg #[.int .i64 ((t : Int) % 256), .slice (some ⟨X1, 0, none⟩) 1 1]] wA fun e w' => ∃ A' c', e = .returned (.tuple #[.slice A' 1 c', .bool true, .int .i64 0]) ∧ Sq w' (fun b => wA.heap.size ≤ b) (.slice A' 1 c') 1 (CU [(t : Int)]) ∧ RV w' lo (tkR r 0 ((t : Int).tmod 256) 1) ∧ Fo (fun b => b = lo) wA w') := by rw [← HM6.out]; rw [hWW, hE] at TA; exact TA
          have HE := Lib.hid hE
          clear TA hWW hE
          refine TK.out.mono ?_
          rintro e w4 ⟨A', c', rfl, sq4, rv4, fo4⟩
          have HSQ := Lib.hid sq4
          have HR4 := Lib.hid rv4
          have HOB4 := Lib.hid (HOBA.out.fo fo4 (fun e => HNE.out.1 e.symm))
          have HB4 : Hid (Below lo w w4) := HBA.out.trans (fo4.below (fun b hb => by omega) (by have := HSZ.out; omega))
          clear sq4 rv4 fo4 TK
          have hx : Below w4.heap.size w4 (w4.alloc (.cells #[.int .u32 (t : Int)] 47)) := (Below.refl _ _).alloc (Nat.le_refl _) _
          have hnw : (w4.alloc (.cells #[.int .u32 (t : Int)] 47)).heap[w4.heap.size]? = some (.cells #[.int .u32 (t : Int)] 47 (0, 0)) := heap_alloc_new _ _
          have hsz : (w4.alloc (.cells #[.int .u32 (t : Int)] 47)).heap.size = w4.heap.size + 1 := by simp
          go_wp2_with fail
          obtain ⟨X5, hX5⟩ : ∃ b, w4.heap.size = b := ⟨_, rfl⟩
          obtain ⟨w5, hw5⟩ : ∃ W, w4.alloc (.cells #[.int .u32 (t : Int)] 47) = W := ⟨_, rfl⟩
          rw [hw5] at hx hnw hsz
          rw [hX5] at hnw
          rw [hw5, hX5]
          have SQ5 : Sq w5 (fun b => b = X5) (.slice (some ⟨X5, 0, none⟩) 1 1) 1 (CU [(t : Int)]) := one_sq (off := 0) (i := 0) (by omega) rfl (by rw [(row_cell hnw 0).1]; rfl)
          have WD := rwords_any _ _ _ _ [(t : Int)] [(t : Int)] w5 (HSQ.out.belowP hx).st SQ5.st (by simp)
          rw [decide_eq_true rfl] at WD
          have HR5 := Lib.hid (HR4.out.below hx)
          have HOB5 := Lib.hid (HOB4.out.below hx)
          have HB5 : Hid (Below lo w w5) := HB4.out.trans (hx.mono (by have := HR4.out.lt; omega))
          clear hx hnw hsz hX5 hw5 SQ5 HSQ HR4 HOB4 HB4 HOBA HBA
          refine WD.mono ?_
          rintro e w6 ⟨rfl, b6⟩
          have HR6 := Lib.hid (HR5.out.below b6)
          have HOB6 := Lib.hid (HOB5.out.below b6)
          have HB6 : Hid (Below lo w w6) := HB5.out.trans (b6.mono (by have := HR5.out.lt; omega))
          have y0 := HOB6.out.at_ (i := t) (by omega)
          have yf := (row_cell HOB6.out.hb t).2
          obtain ⟨C', hC'⟩ := HOB6.out.add (d := t) (by omega)
          have hov := HOU.out t
          have hfz : Fo (fun b => b = Ob) w6 (w6.setCell ⟨Ob, t, none⟩ (.int .i64 (out t + 1))) := (Fo.refl (fun b => b = Ob) w6).setCell (.inl rfl) t _
          obtain ⟨Z, hZ⟩ : ∃ Z, w6.setCell ⟨Ob, t, none⟩ (.int .i64 (out t + 1)) = Z := ⟨_, rfl⟩
          rw [hZ] at hC' hfz
          have HQ : Hid (OO n lag lo zs w lo Ob t 1 Z) := by
            refine ⟨_, max N (t : Int), addF out t, C', HR6.out.fo hfz HNE.out.1, hC', fun i => ?_, HLS.out, HNE.out.1, Nat.le_refl _, HNE.out.2, HB6.out.trans (hfz.below (fun b hb => by rw [hb]; exact HNE.out.2) (by have := HR6.out.lt; omega)), fun g => ?_⟩
            · have := HOU.out i
              unfold addF
              split
              · exact ⟨by omega, by push_cast at this ⊢; omega⟩
              · exact ⟨by omega, by push_cast at this ⊢; omega⟩
            · have hg := HGG.out
              have S := (hg g).2.step0 (hg g).1 g HL.out HDN.out HY.out
              rw [nxF_yes HE.out] at S
              exact S
          obtain ⟨ov, hov2⟩ : ∃ x, out t = x := ⟨_, rfl⟩
          rw [hov2] at y0 hov hZ
          have hov3 : ov ≤ 1000 := by have := HT.out; have := HN.out; have := HL.out; push_cast at hov; omega
          have hov4 : 0 ≤ ov := hov.1
          clear hov b6 WD HR5 HOB5 HB5 HR6 HOB6 HB6 HOU HGG HE HLS hC' hfz hov2 HO
          go_wp2_with fail
          go_roundw
          case rel =>
            have Q : OIn n lag lo zs w lo Ob t (.int .i64 1) Z := ⟨.inr (.inl ⟨rfl, HQ.out⟩)⟩
            first | exact Q | ((repeat apply Exists.intro); exact ⟨Q, rfl⟩)
          case measure => simp [intOf]
        · have hWW : tkW r 0 ((t : Int).tmod 256) 1 [(t : Int)] = [] := by unfold tkW; rw [if_neg hE]
          have TK : Hid (Calls Try.prog 20 #[.pointer (some ⟨lo, 0, none⟩), .int .i64 0, .agg #[.int .i64 ((t : Int) % 256), .slice (some ⟨X1, 0, none⟩) 1 1]] wA fun e w' => ∃ A' c' ec, e = .returned (.tuple #[.slice A' 0 c', .bool false, .int .i64 ec]) ∧ RV w' lo (tkR r 0 ((t : Int).tmod 256) 1) ∧ Fo (fun b => b = lo) wA w') := by rw [← HM6.out]; rw [hWW, decide_eq_false hE] at TA; exact TA.mono (fun e w' h => by obtain ⟨A', c', h1, h2, h3, h4⟩ := h; exact ⟨A', c', _, h1, h3, h4⟩)
          have HE := Lib.hid hE
          clear TA hWW hE
          refine TK.out.mono ?_
          rintro e w4 ⟨A', c', ec, rfl, rv4, fo4⟩
          have HQ : Hid (OO n lag lo zs w lo Ob t 1 w4) := by
            refine ⟨_, max N (t : Int), out, C, rv4, HOBA.out.fo fo4 (fun e => HNE.out.1 e.symm), fun i => ?_, HLS.out, HNE.out.1, Nat.le_refl _, HNE.out.2, HBA.out.trans (fo4.below (fun b hb => by omega) (by have := HSZ.out; omega)), fun g => ?_⟩
            · have := HOU.out i
              exact ⟨by omega, by push_cast at this ⊢; omega⟩
            · have hg := HGG.out
              have S := (hg g).2.step0 (hg g).1 g HL.out HDN.out HY.out
              rw [nxF_no HE.out] at S
              exact S
          clear rv4 fo4 TK HOU HGG HE HLS HOBA HBA HO
          go_wp2_with fail
          go_roundw
          case rel =>
            have Q : OIn n lag lo zs w lo Ob t (.int .i64 1) w4 := ⟨.inr (.inl ⟨rfl, HQ.out⟩)⟩
            first | exact Q | ((repeat apply Exists.intro); exact ⟨Q, rfl⟩)
          case measure => simp [intOf]
      · have HO := Lib.hid ho
        clear ho
        by_cases htl : t < lag
        · have HTL := Lib.hid htl
          have g2 : (t : Int) - (lag : Int) < 0 := by omega
          have g3 : IntKind.i64.wrap ((t : Int) - (lag : Int)) = (t : Int) - (lag : Int) := IntWalk.i64_in _ ⟨by omega, by omega⟩
          clear htl
          have HQ : Hid (OO n lag lo zs w lo Ob (t + 1) 0 wr) := by
            obtain ⟨r, N, out, C, hr, hob, hou, hlo, hne, hl1, hl2, hbe, hg⟩ := HO.out.ex
            exact ⟨r, N, out, C, hr, hob, fun i => ⟨(hou i).1, by have := (hou i).2; push_cast at this ⊢; omega⟩, by push_cast at hlo ⊢; omega, hne, hl1, hl2, hbe, fun g => ⟨(hg g).1, (hg g).2.no1 (fun x hx _ => absurd hx (by have := HTL.out; omega))⟩⟩
          clear HO
          go_wp2_with fail
          go_roundw
          case rel =>
            have Q : OIn n lag lo zs w lo Ob t (.int .i64 2) wr := ⟨.inr (.inr ⟨rfl, HQ.out⟩)⟩
            first | exact Q | ((repeat apply Exists.intro); exact ⟨Q, rfl⟩)
          case measure => simp [intOf]
        obtain ⟨dn, hdn0⟩ : ∃ x : Nat, (t : Int) - (lag : Int) = (x : Int) := ⟨t - lag, by omega⟩
        have HDT : Hid (dn + lag = t) := by unfold Hid; omega
        have hsw : IntKind.i64.wrap ((t : Int) - (lag : Int)) = (dn : Int) := by rw [hdn0]; exact IntWalk.i64_in _ ⟨by have := HT.out; have := HN.out; omega, by have := HT.out; have := HN.out; omega⟩
        clear htl
        by_cases hdn : dn < n
        rotate_left
        · have g1 : (dn : Int) ≥ (n : Int) := by omega
          have g2 : ¬ (dn : Int) < 0 := by omega
          have HDN := Lib.hid hdn
          clear hdn
          have HQ : Hid (OO n lag lo zs w lo Ob (t + 1) 0 wr) := by
            obtain ⟨r, N, out, C, hr, hob, hou, hlo, hne, hl1, hl2, hbe, hg⟩ := HO.out.ex
            exact ⟨r, N, out, C, hr, hob, fun i => ⟨(hou i).1, by have := (hou i).2; push_cast at this ⊢; omega⟩, by push_cast at hlo ⊢; omega, hne, hl1, hl2, hbe, fun g => ⟨(hg g).1, (hg g).2.no1 (fun x hx h => absurd h (by have := HDN.out; have := HDT.out; omega))⟩⟩
          clear HO
          go_wp2_with fail
          go_roundw
          case rel =>
            have Q : OIn n lag lo zs w lo Ob t (.int .i64 2) wr := ⟨.inr (.inr ⟨rfl, HQ.out⟩)⟩
            first | exact Q | ((repeat apply Exists.intro); exact ⟨Q, rfl⟩)
          case measure => simp [intOf]
        have g1 : ¬ (dn : Int) ≥ (n : Int) := by omega
        have g2 : ¬ (dn : Int) < 0 := by omega
        have HDN := Lib.hid hdn
        have hd300 : (dn : Int) < 300 := by omega
        obtain ⟨b, off, hA, hbl, hc⟩ := row_at H1.out (show 0 < len by have := HN.out; omega)
        subst hA
        obtain ⟨zv, hzv⟩ : ∃ x, zs.getD dn 0 = x := ⟨_, rfl⟩
        have hbe : Below lo w wr := by obtain ⟨r, N, out, C, hr, hob, hou, hlo, hne, hl1, hl2, hbe, hg⟩ := HO.out.ex; exact hbe
        have e0 : wr.cell? ⟨b, off + dn, none⟩ = some (.int .i64 zv) := by rw [← hzv]; exact (hbe.cell (by show b < lo; have := HLO.out; omega)).trans (hc dn (by have := HN.out; omega)).1
        have HV : Hid (zs.getD dn 0 = zv) := hzv
        have hdl : (dn : Int) < (len : Int) := by have := HN.out; omega
        have hdlN : dn < len := by have := HN.out; omega
        clear hzv hc hbl hbe hdn
        by_cases k0 : (zv / 2).tmod 2 = 0
        · have HK0 := Lib.hid k0
          have HQ : Hid (OO n lag lo zs w lo Ob (t + 1) 0 wr) := by
            obtain ⟨r, N, out, C, hr, hob, hou, hlo, hne, hl1, hl2, hbe, hg⟩ := HO.out.ex
            exact ⟨r, N, out, C, hr, hob, fun i => ⟨(hou i).1, by have := (hou i).2; push_cast at this ⊢; omega⟩, by push_cast at hlo ⊢; omega, hne, hl1, hl2, hbe, fun g => ⟨(hg g).1, (hg g).2.no1 (fun x hx _ h => h (by rw [show x = dn by have := HDT.out; omega, HV.out]; exact HK0.out))⟩⟩
          clear HO
          go_wp2_with fail
          go_roundw
          case rel =>
            have Q : OIn n lag lo zs w lo Ob t (.int .i64 2) wr := ⟨.inr (.inr ⟨rfl, HQ.out⟩)⟩
            first | exact Q | ((repeat apply Exists.intro); exact ⟨Q, rfl⟩)
          case measure => simp [intOf]
        have HY : Hid (hB1 zs dn) := by unfold Hid hB1; rw [HV.out]; exact k0
        have hwd : IntKind.u32.wrap (dn : Int) = (dn : Int) := by rw [IntKind.wrap_u32]; omega
        have hm6 : (dn : Int).tmod 256 = (dn : Int) % 256 := Int.tmod_eq_emod_of_nonneg (by omega)
        have HM6 := Lib.hid hm6
        have hx : Below wr.heap.size wr (wr.alloc (.cells #[.int .u32 (dn : Int)] 47)) := (Below.refl _ _).alloc (Nat.le_refl _) _
        have hnw : (wr.alloc (.cells #[.int .u32 (dn : Int)] 47)).heap[wr.heap.size]? = some (.cells #[.int .u32 (dn : Int)] 47 (0, 0)) := heap_alloc_new _ _
        have hsz : (wr.alloc (.cells #[.int .u32 (dn : Int)] 47)).heap.size = wr.heap.size + 1 := by simp
        clear hm6
        go_wp2_with fail
        obtain ⟨X1, hX1⟩ : ∃ b, wr.heap.size = b := ⟨_, rfl⟩
        obtain ⟨wA, hwA⟩ : ∃ W, wr.alloc (.cells #[.int .u32 (dn : Int)] 47) = W := ⟨_, rfl⟩
        rw [hwA] at hx hnw hsz
        rw [hX1] at hnw
        rw [hwA, hX1]
        obtain ⟨r, N, out, C, hr, hob, hou, hlo, hne, hl1, hl2, hbe, hg⟩ := HO.out.ex
        have SQ : Sq wA (fun b => b = X1) (.slice (some ⟨X1, 0, none⟩) 1 1) 1 (CU [(dn : Int)]) := one_sq (off := 0) (i := 0) (by omega) rfl (by rw [(row_cell hnw 0).1]; rfl)
        have TA := take_any lo r 1 ((dn : Int).tmod 256) (fun b => b = X1) (some ⟨X1, 0, none⟩) 1 1 [(dn : Int)] wA (hr.below hx) SQ (fun e => by have := hr.lt; omega) (by have := HT.out; have := HN.out; have := HL.out; push_cast at hlo; omega)
        have HOBA := Lib.hid (hob.below hx)
        have HBA : Hid (Below lo w wA) := hbe.trans (hx.mono (by have := hr.lt; omega))
        have HNE : Hid (lo ≠ Ob ∧ lo ≤ Ob) := ⟨hne, hl2⟩
        have HSZ : Hid (lo < wA.heap.size) := by have := hr.lt; unfold Hid; omega
        have HLS : Hid ((tkR r 1 ((dn : Int).tmod 256) 1).lost ≤ 127 * (2 * ((t + 1) : Int) + 0)) := by have := tkR_lost r 1 ((dn : Int).tmod 256) 1; unfold Hid; push_cast at hlo ⊢; omega
        have HOU : Hid (∀ i, 0 ≤ out i ∧ out i + 1 ≤ 2 * ((t + 1) : Int) + 0) := fun i => ⟨(hou i).1, by have := (hou i).2; push_cast at this ⊢; omega⟩
        have HGG := Lib.hid hg
        clear hx hnw hsz hX1 hwA hr hob hou hlo hne hl1 hl2 hbe hg SQ
        by_cases hE : tkE r 1 ((dn : Int).tmod 256) 1 = 0
        · have hWW : tkW r 1 ((dn : Int).tmod 256) 1 [(dn : Int)] = [(dn : Int)] := by unfold tkW; rw [if_pos hE]
          have TK : Hid (Calls Try.prog 20 #[.pointer (some ⟨lo, 0, none⟩), .int .i64 1, .agg #[.int .i64 ((dn : Int) % 256), .slice (some ⟨X1, 0, none⟩) 1 1]] wA fun e w' => ∃ A' c', e = .returned (.tuple #[.slice A' 1 c', .bool true, .int .i64 0]) ∧ Sq w' (fun b => wA.heap.size ≤ b) (.slice A' 1 c') 1 (CU [(dn : Int)]) ∧ RV w' lo (tkR r 1 ((dn : Int).tmod 256) 1) ∧ Fo (fun b => b = lo) wA w') := by rw [← HM6.out]; rw [hWW, hE] at TA; exact TA
          have HE := Lib.hid hE
          clear TA hWW hE
          refine TK.out.mono ?_
          rintro e w4 ⟨A', c', rfl, sq4, rv4, fo4⟩
          have HSQ := Lib.hid sq4
          have HR4 := Lib.hid rv4
          have HOB4 := Lib.hid (HOBA.out.fo fo4 (fun e => HNE.out.1 e.symm))
          have HB4 : Hid (Below lo w w4) := HBA.out.trans (fo4.below (fun b hb => by omega) (by have := HSZ.out; omega))
          clear sq4 rv4 fo4 TK
          have hx : Below w4.heap.size w4 (w4.alloc (.cells #[.int .u32 (dn : Int)] 47)) := (Below.refl _ _).alloc (Nat.le_refl _) _
          have hnw : (w4.alloc (.cells #[.int .u32 (dn : Int)] 47)).heap[w4.heap.size]? = some (.cells #[.int .u32 (dn : Int)] 47 (0, 0)) := heap_alloc_new _ _
          have hsz : (w4.alloc (.cells #[.int .u32 (dn : Int)] 47)).heap.size = w4.heap.size + 1 := by simp
          go_wp2_with fail
          obtain ⟨X5, hX5⟩ : ∃ b, w4.heap.size = b := ⟨_, rfl⟩
          obtain ⟨w5, hw5⟩ : ∃ W, w4.alloc (.cells #[.int .u32 (dn : Int)] 47) = W := ⟨_, rfl⟩
          rw [hw5] at hx hnw hsz
          rw [hX5] at hnw
          rw [hw5, hX5]
          have SQ5 : Sq w5 (fun b => b = X5) (.slice (some ⟨X5, 0, none⟩) 1 1) 1 (CU [(dn : Int)]) := one_sq (off := 0) (i := 0) (by omega) rfl (by rw [(row_cell hnw 0).1]; rfl)
          have WD := rwords_any _ _ _ _ [(dn : Int)] [(dn : Int)] w5 (HSQ.out.belowP hx).st SQ5.st (by simp)
          rw [decide_eq_true rfl] at WD
          have HR5 := Lib.hid (HR4.out.below hx)
          have HOB5 := Lib.hid (HOB4.out.below hx)
          have HB5 : Hid (Below lo w w5) := HB4.out.trans (hx.mono (by have := HR4.out.lt; omega))
          clear hx hnw hsz hX5 hw5 SQ5 HSQ HR4 HOB4 HB4 HOBA HBA
          refine WD.mono ?_
          rintro e w6 ⟨rfl, b6⟩
          have HR6 := Lib.hid (HR5.out.below b6)
          have HOB6 := Lib.hid (HOB5.out.below b6)
          have HB6 : Hid (Below lo w w6) := HB5.out.trans (b6.mono (by have := HR5.out.lt; omega))
          have y0 := HOB6.out.at_ (i := dn) (by omega)
          have yf := (row_cell HOB6.out.hb dn).2
          obtain ⟨C', hC'⟩ := HOB6.out.add (d := dn) (by omega)
          have hov := HOU.out dn
          have hfz : Fo (fun b => b = Ob) w6 (w6.setCell ⟨Ob, dn, none⟩ (.int .i64 (out dn + 1))) := (Fo.refl (fun b => b = Ob) w6).setCell (.inl rfl) dn _
          obtain ⟨Z, hZ⟩ : ∃ Z, w6.setCell ⟨Ob, dn, none⟩ (.int .i64 (out dn + 1)) = Z := ⟨_, rfl⟩
          rw [hZ] at hC' hfz
          have HQ : Hid (OO n lag lo zs w lo Ob (t + 1) 0 Z) := by
            refine ⟨_, max N (dn : Int), addF out dn, C', HR6.out.fo hfz HNE.out.1, hC', fun i => ?_, HLS.out, HNE.out.1, Nat.le_refl _, HNE.out.2, HB6.out.trans (hfz.below (fun b hb => by rw [hb]; exact HNE.out.2) (by have := HR6.out.lt; omega)), fun g => ?_⟩
            · have := HOU.out i
              unfold addF
              split
              · exact ⟨by omega, by push_cast at this ⊢; omega⟩
              · exact ⟨by omega, by push_cast at this ⊢; omega⟩
            · have hg := HGG.out
              have S := (hg g).2.step1 (hg g).1 g HL.out HDT.out HDN.out HY.out
              rw [nxF_yes HE.out] at S
              exact S
          obtain ⟨ov, hov2⟩ : ∃ x, out dn = x := ⟨_, rfl⟩
          rw [hov2] at y0 hov hZ
          have hov3 : ov ≤ 1000 := by have := HT.out; have := HN.out; have := HL.out; push_cast at hov; omega
          have hov4 : 0 ≤ ov := hov.1
          clear hov b6 WD HR5 HOB5 HB5 HR6 HOB6 HB6 HOU HGG HE HLS hC' hfz hov2 HO
          go_wp2_with fail
          go_roundw
          case rel =>
            have Q : OIn n lag lo zs w lo Ob t (.int .i64 2) Z := ⟨.inr (.inr ⟨rfl, HQ.out⟩)⟩
            first | exact Q | ((repeat apply Exists.intro); exact ⟨Q, rfl⟩)
          case measure => simp [intOf]
        · have hWW : tkW r 1 ((dn : Int).tmod 256) 1 [(dn : Int)] = [] := by unfold tkW; rw [if_neg hE]
          have TK : Hid (Calls Try.prog 20 #[.pointer (some ⟨lo, 0, none⟩), .int .i64 1, .agg #[.int .i64 ((dn : Int) % 256), .slice (some ⟨X1, 0, none⟩) 1 1]] wA fun e w' => ∃ A' c' ec, e = .returned (.tuple #[.slice A' 0 c', .bool false, .int .i64 ec]) ∧ RV w' lo (tkR r 1 ((dn : Int).tmod 256) 1) ∧ Fo (fun b => b = lo) wA w') := by rw [← HM6.out]; rw [hWW, decide_eq_false hE] at TA; exact TA.mono (fun e w' h => by obtain ⟨A', c', h1, h2, h3, h4⟩ := h; exact ⟨A', c', _, h1, h3, h4⟩)
          have HE := Lib.hid hE
          clear TA hWW hE
          refine TK.out.mono ?_
          rintro e w4 ⟨A', c', ec, rfl, rv4, fo4⟩
          have HQ : Hid (OO n lag lo zs w lo Ob (t + 1) 0 w4) := by
            refine ⟨_, max N (dn : Int), out, C, rv4, HOBA.out.fo fo4 (fun e => HNE.out.1 e.symm), fun i => ?_, HLS.out, HNE.out.1, Nat.le_refl _, HNE.out.2, HBA.out.trans (fo4.below (fun b hb => by omega) (by have := HSZ.out; omega)), fun g => ?_⟩
            · have := HOU.out i
              exact ⟨by omega, by push_cast at this ⊢; omega⟩
            · have hg := HGG.out
              have S := (hg g).2.step1 (hg g).1 g HL.out HDT.out HDN.out HY.out
              rw [nxF_no HE.out] at S
              exact S
          clear rv4 fo4 TK HOU HGG HE HLS HOBA HBA HO
          go_wp2_with fail
          go_roundw
          case rel =>
            have Q : OIn n lag lo zs w lo Ob t (.int .i64 2) w4 := ⟨.inr (.inr ⟨rfl, HQ.out⟩)⟩
            first | exact Q | ((repeat apply Exists.intro); exact ⟨Q, rfl⟩)
          case measure => simp [intOf]
end Go.Proofs.Ytkbjonblflhkoaa.Ln
