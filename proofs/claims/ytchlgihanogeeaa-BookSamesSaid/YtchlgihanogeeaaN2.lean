/-
  Names of the other kinds. Each statement bears its own conditions.
-/
import Derived.Test.YtchlgihanogeeaaN0
import Derived.Laws.OwnMore
namespace Go.Proofs.Ytchlgihanogeeaa
open Go.RowKit
set_option linter.unusedVariables false
set_option linter.unusedSimpArgs false
theorem nameArea_any (qa : ByteArray) (qb : Int) (qc : Int) (qd : Bool) (qe : Bool) (qf : Bool) (w : World) : Calls Try.prog 67 #[.agg #[.string qa, .int .i64 qb, .int .i64 qc, .bool qd, .bool qe, .bool qf]] w fun e w' => e = .returned (.string qa) ∧ Below w.heap.size w w' := by
  go_enter Try.func67, Try.ntmps67
  go_wp2_with fail
  go_ret
  exact ⟨rfl, (Below.refl _ _).alloc (Nat.le_refl _) _⟩
set_option maxRecDepth 100000 in
set_option maxHeartbeats 4000000 in
theorem namesArea_any (v : Value) (xs : List MArea) (w : World) (h : Row w 6 RArea v xs) :
    Calls Try.prog 66 #[v, .func (.func 67) #[] #[]] w fun e w' => (∃ r, e = .returned r ∧ Row w' 1 RStr r (xs.map (·.qa))) ∧ Below w.heap.size w w' := by
  obtain ⟨i0, hi, hz0, hz1, hz2⟩ := info_of str_info
  obtain ⟨a, cap, rfl, hm⟩ := h.form
  obtain ⟨n, hn⟩ : ∃ n, xs.length = n := ⟨_, rfl⟩
  rw [hn] at h hm ⊢
  have HN := Lib.hid hn
  have HM := Lib.hid hm
  have H := Lib.hid h
  unfold rowMax at hm
  clear hn h
  go_enter Try.func66, Try.ntmps66
  go_wp2_with fail
  go_loopw [5, 10] (fun v5 v wr => NmsRel (·.qa) n xs w v5 v wr) (fun _ v => fun _ => n - (intOf v).toNat)
  case atStart => exact ⟨⟨0, none, 0, Nat.zero_le _, rfl, rfl, World.ownsRow_nil _ _ _ _, Below.refl _ _⟩⟩
  case round =>
    obtain ⟨⟨k, A, c, hk, rfl, rfl, ho, hb⟩⟩ := hrel
    have HK := Lib.hid hk
    obtain ⟨ls, hls⟩ : ∃ ls, ((xs.take k).map (·.qa)).map Value.string = ls := ⟨_, rfl⟩
    rw [hls] at ho
    have HLS := Lib.hid hls
    have HO := Lib.hid ho
    have HB := Lib.hid hb
    clear hk ho hb hls
    by_cases hlt : k < n
    · have hkI : (k : Int) < (n : Int) := by omega
      have HX : Hid (k < n) := hlt
      obtain ⟨hnx, b, off, x, cs, rfl, hbl, hx, hR, _, hc⟩ := H.out.at_ k hlt
      clear hnx hbl
      have HXS := Lib.hid hx
      obtain ⟨qa, qb, qc, qd, qe, qf⟩ := x
      obtain ⟨rfl, _⟩ := hR
      have d0 : wr.cell? ⟨b, off + k * 6, none⟩ = some (.string qa) := cell_later HB.out (hc 0 _ rfl)
      have d1 : wr.cell? ⟨b, off + k * 6 + 1, none⟩ = some (.int .i64 qb) := cell_later HB.out (hc 1 _ rfl)
      have d2 : wr.cell? ⟨b, off + k * 6 + 2, none⟩ = some (.int .i64 qc) := cell_later HB.out (hc 2 _ rfl)
      have d3 : wr.cell? ⟨b, off + k * 6 + 3, none⟩ = some (.bool qd) := cell_later HB.out (hc 3 _ rfl)
      have d4 : wr.cell? ⟨b, off + k * 6 + 4, none⟩ = some (.bool qe) := cell_later HB.out (hc 4 _ rfl)
      have d5 : wr.cell? ⟨b, off + k * 6 + 5, none⟩ = some (.bool qf) := cell_later HB.out (hc 5 _ rfl)
      have C := Lib.hid (nameArea_any qa qb qc qd qe qf   (wr.alloc (.cells #[.string qa, .int .i64 qb, .int .i64 qc, .bool qd, .bool qe, .bool qf] 107)))
      clear hc hlt hx 
      go_wp2_with fail
      refine C.out.mono ?_
      rintro e W1 ⟨rfl, b1⟩
      have HO1 : Hid (W1.ownsRow w.heap.size 9 1 (.slice A k c) k ls) := own_below (own_below HO.out ((Below.refl _ _).alloc (Nat.le_refl _) _)) b1
      have HB1 : Hid (Below w.heap.size w W1) := (HB.out.alloc HB.out.size _).trans (b1.mono (by have := HB.out.size; simp; omega))
      have HS1 := Lib.hid HB1.out.size
      clear b1 C d0 d1 d2 d3 d4 d5
      go_wp2_with (at_builtin; refine wpList_append_own _ rfl _ _ 36 rfl w.heap.size 9 i0 (.string ⟨#[]⟩) 1 16 Try.underlying36 hi hz0 hz1 hz2 rfl (by decide) _ _ _ rfl (own_below HO1.out ((Below.refl _ _).alloc (Nat.le_refl _) _)) ⟨W1.heap.size, 0, none⟩ 1 1 [.string qa] rfl rfl ?c1 ?c2 ?c3 ?c4 ?c5 ?_)
      case c1 => intro j u hu; cases j with
        | zero => simp at hu; subst hu; rw [Addr.add_lit, World.cell?_alloc_new]; rfl
        | succ j => simp at hu
      case c2 => intro u hu; simp at hu; subst hu; rfl
      case c3 => have h1 := HX.out; have h2 := HM.out; unfold rowMax at h2; unfold maxLen; omega
      case c4 => have h1 := HX.out; have h2 := HM.out; unfold rowMax at h2; omega
      case c5 => have := HS1.out; simp; omega
      intro v' w2 hown hgrow _
      obtain ⟨A', c', rfl⟩ := own_form hown
      have HO2 : Hid (w2.ownsRow w.heap.size 9 1 (.slice A' (k + 1) c') (k + 1) (((xs.take (k + 1)).map (·.qa)).map Value.string)) := by
        have h1 := take_snoc_str (fun x : MArea => x.qa) HXS.out
        unfold Hid; rw [h1, HLS.out]; exact hown
      have HB2 : Hid (Below w.heap.size w w2) := by
        have h1 : Below w.heap.size w (W1.alloc (.cells #[.string qa] 9)) := HB1.out.alloc HB1.out.size _
        exact h1.grown hgrow (by have := HS1.out; simp; omega) (fun k hk => (HO1.out.lt k hk).1)
      clear hown hgrow
      go_wp2_with fail
      go_roundw
      case rel =>
        have Q : NmsRel (fun x : MArea => x.qa) n xs w (.slice A' (k + 1) c') (.int .i64 ((k : Int) + 1)) w2 := ⟨⟨k + 1, A', c', HX.out, rfl, by go_num, HO2.out, HB2.out⟩⟩
        first | exact Q | ((repeat apply Exists.intro); exact ⟨Q, rfl⟩)
      case measure => have := HX.out; simp [intOf]; omega
    · have hkI : ¬ (k : Int) < (n : Int) := by omega
      have HF : Hid (Row wr 1 RStr (.slice A k c) (xs.map (·.qa))) := by
        have h0 := HO.out
        rw [← HLS.out] at h0
        have := own_row h0 (by have := HK.out; have := HM.out; omega)
        rwa [List.take_of_length_le (by have := HN.out; omega)] at this
      go_wp2_with fail
      go_ret
      exact ⟨⟨_, rfl, HF.out⟩, HB.out⟩
theorem nameTask_any (qa : ByteArray) (qb : Int) (qc : Int) (qd : Int) (qe : Int) (qf : Int) (qg : Int) (qh : Int) (w : World) : Calls Try.prog 69 #[.agg #[.string qa, .int .i64 qb, .int .i64 qc, .int .i64 qd, .int .i64 qe, .int .i64 qf, .int .i64 qg, .int .i64 qh]] w fun e w' => e = .returned (.string qa) ∧ Below w.heap.size w w' := by
  go_enter Try.func69, Try.ntmps69
  go_wp2_with fail
  go_ret
  exact ⟨rfl, (Below.refl _ _).alloc (Nat.le_refl _) _⟩
set_option maxRecDepth 100000 in
set_option maxHeartbeats 4000000 in
theorem namesTask_any (v : Value) (xs : List MTask) (w : World) (h : Row w 8 RTask v xs) :
    Calls Try.prog 68 #[v, .func (.func 69) #[] #[]] w fun e w' => (∃ r, e = .returned r ∧ Row w' 1 RStr r (xs.map (·.qa))) ∧ Below w.heap.size w w' := by
  obtain ⟨i0, hi, hz0, hz1, hz2⟩ := info_of str_info
  obtain ⟨a, cap, rfl, hm⟩ := h.form
  obtain ⟨n, hn⟩ : ∃ n, xs.length = n := ⟨_, rfl⟩
  rw [hn] at h hm ⊢
  have HN := Lib.hid hn
  have HM := Lib.hid hm
  have H := Lib.hid h
  unfold rowMax at hm
  clear hn h
  go_enter Try.func68, Try.ntmps68
  go_wp2_with fail
  go_loopw [5, 10] (fun v5 v wr => NmsRel (·.qa) n xs w v5 v wr) (fun _ v => fun _ => n - (intOf v).toNat)
  case atStart => exact ⟨⟨0, none, 0, Nat.zero_le _, rfl, rfl, World.ownsRow_nil _ _ _ _, Below.refl _ _⟩⟩
  case round =>
    obtain ⟨⟨k, A, c, hk, rfl, rfl, ho, hb⟩⟩ := hrel
    have HK := Lib.hid hk
    obtain ⟨ls, hls⟩ : ∃ ls, ((xs.take k).map (·.qa)).map Value.string = ls := ⟨_, rfl⟩
    rw [hls] at ho
    have HLS := Lib.hid hls
    have HO := Lib.hid ho
    have HB := Lib.hid hb
    clear hk ho hb hls
    by_cases hlt : k < n
    · have hkI : (k : Int) < (n : Int) := by omega
      have HX : Hid (k < n) := hlt
      obtain ⟨hnx, b, off, x, cs, rfl, hbl, hx, hR, _, hc⟩ := H.out.at_ k hlt
      clear hnx hbl
      have HXS := Lib.hid hx
      obtain ⟨qa, qb, qc, qd, qe, qf, qg, qh⟩ := x
      obtain ⟨rfl, _⟩ := hR
      have d0 : wr.cell? ⟨b, off + k * 8, none⟩ = some (.string qa) := cell_later HB.out (hc 0 _ rfl)
      have d1 : wr.cell? ⟨b, off + k * 8 + 1, none⟩ = some (.int .i64 qb) := cell_later HB.out (hc 1 _ rfl)
      have d2 : wr.cell? ⟨b, off + k * 8 + 2, none⟩ = some (.int .i64 qc) := cell_later HB.out (hc 2 _ rfl)
      have d3 : wr.cell? ⟨b, off + k * 8 + 3, none⟩ = some (.int .i64 qd) := cell_later HB.out (hc 3 _ rfl)
      have d4 : wr.cell? ⟨b, off + k * 8 + 4, none⟩ = some (.int .i64 qe) := cell_later HB.out (hc 4 _ rfl)
      have d5 : wr.cell? ⟨b, off + k * 8 + 5, none⟩ = some (.int .i64 qf) := cell_later HB.out (hc 5 _ rfl)
      have d6 : wr.cell? ⟨b, off + k * 8 + 6, none⟩ = some (.int .i64 qg) := cell_later HB.out (hc 6 _ rfl)
      have d7 : wr.cell? ⟨b, off + k * 8 + 7, none⟩ = some (.int .i64 qh) := cell_later HB.out (hc 7 _ rfl)
      have C := Lib.hid (nameTask_any qa qb qc qd qe qf qg qh   (wr.alloc (.cells #[.string qa, .int .i64 qb, .int .i64 qc, .int .i64 qd, .int .i64 qe, .int .i64 qf, .int .i64 qg, .int .i64 qh] 109)))
      clear hc hlt hx 
      go_wp2_with fail
      refine C.out.mono ?_
      rintro e W1 ⟨rfl, b1⟩
      have HO1 : Hid (W1.ownsRow w.heap.size 9 1 (.slice A k c) k ls) := own_below (own_below HO.out ((Below.refl _ _).alloc (Nat.le_refl _) _)) b1
      have HB1 : Hid (Below w.heap.size w W1) := (HB.out.alloc HB.out.size _).trans (b1.mono (by have := HB.out.size; simp; omega))
      have HS1 := Lib.hid HB1.out.size
      clear b1 C d0 d1 d2 d3 d4 d5 d6 d7
      go_wp2_with (at_builtin; refine wpList_append_own _ rfl _ _ 36 rfl w.heap.size 9 i0 (.string ⟨#[]⟩) 1 16 Try.underlying36 hi hz0 hz1 hz2 rfl (by decide) _ _ _ rfl (own_below HO1.out ((Below.refl _ _).alloc (Nat.le_refl _) _)) ⟨W1.heap.size, 0, none⟩ 1 1 [.string qa] rfl rfl ?c1 ?c2 ?c3 ?c4 ?c5 ?_)
      case c1 => intro j u hu; cases j with
        | zero => simp at hu; subst hu; rw [Addr.add_lit, World.cell?_alloc_new]; rfl
        | succ j => simp at hu
      case c2 => intro u hu; simp at hu; subst hu; rfl
      case c3 => have h1 := HX.out; have h2 := HM.out; unfold rowMax at h2; unfold maxLen; omega
      case c4 => have h1 := HX.out; have h2 := HM.out; unfold rowMax at h2; omega
      case c5 => have := HS1.out; simp; omega
      intro v' w2 hown hgrow _
      obtain ⟨A', c', rfl⟩ := own_form hown
      have HO2 : Hid (w2.ownsRow w.heap.size 9 1 (.slice A' (k + 1) c') (k + 1) (((xs.take (k + 1)).map (·.qa)).map Value.string)) := by
        have h1 := take_snoc_str (fun x : MTask => x.qa) HXS.out
        unfold Hid; rw [h1, HLS.out]; exact hown
      have HB2 : Hid (Below w.heap.size w w2) := by
        have h1 : Below w.heap.size w (W1.alloc (.cells #[.string qa] 9)) := HB1.out.alloc HB1.out.size _
        exact h1.grown hgrow (by have := HS1.out; simp; omega) (fun k hk => (HO1.out.lt k hk).1)
      clear hown hgrow
      go_wp2_with fail
      go_roundw
      case rel =>
        have Q : NmsRel (fun x : MTask => x.qa) n xs w (.slice A' (k + 1) c') (.int .i64 ((k : Int) + 1)) w2 := ⟨⟨k + 1, A', c', HX.out, rfl, by go_num, HO2.out, HB2.out⟩⟩
        first | exact Q | ((repeat apply Exists.intro); exact ⟨Q, rfl⟩)
      case measure => have := HX.out; simp [intOf]; omega
    · have hkI : ¬ (k : Int) < (n : Int) := by omega
      have HF : Hid (Row wr 1 RStr (.slice A k c) (xs.map (·.qa))) := by
        have h0 := HO.out
        rw [← HLS.out] at h0
        have := own_row h0 (by have := HK.out; have := HM.out; omega)
        rwa [List.take_of_length_le (by have := HN.out; omega)] at this
      go_wp2_with fail
      go_ret
      exact ⟨⟨_, rfl, HF.out⟩, HB.out⟩
theorem nameLock_any (qa : ByteArray) (qb : Int) (w : World) : Calls Try.prog 71 #[.agg #[.string qa, .int .i64 qb]] w fun e w' => e = .returned (.string qa) ∧ Below w.heap.size w w' := by
  go_enter Try.func71, Try.ntmps71
  go_wp2_with fail
  go_ret
  exact ⟨rfl, (Below.refl _ _).alloc (Nat.le_refl _) _⟩
set_option maxRecDepth 100000 in
set_option maxHeartbeats 4000000 in
theorem namesLock_any (v : Value) (xs : List MLock) (w : World) (h : Row w 2 RLock v xs) :
    Calls Try.prog 70 #[v, .func (.func 71) #[] #[]] w fun e w' => (∃ r, e = .returned r ∧ Row w' 1 RStr r (xs.map (·.qa))) ∧ Below w.heap.size w w' := by
  obtain ⟨i0, hi, hz0, hz1, hz2⟩ := info_of str_info
  obtain ⟨a, cap, rfl, hm⟩ := h.form
  obtain ⟨n, hn⟩ : ∃ n, xs.length = n := ⟨_, rfl⟩
  rw [hn] at h hm ⊢
  have HN := Lib.hid hn
  have HM := Lib.hid hm
  have H := Lib.hid h
  unfold rowMax at hm
  clear hn h
  go_enter Try.func70, Try.ntmps70
  go_wp2_with fail
  go_loopw [5, 10] (fun v5 v wr => NmsRel (·.qa) n xs w v5 v wr) (fun _ v => fun _ => n - (intOf v).toNat)
  case atStart => exact ⟨⟨0, none, 0, Nat.zero_le _, rfl, rfl, World.ownsRow_nil _ _ _ _, Below.refl _ _⟩⟩
  case round =>
    obtain ⟨⟨k, A, c, hk, rfl, rfl, ho, hb⟩⟩ := hrel
    have HK := Lib.hid hk
    obtain ⟨ls, hls⟩ : ∃ ls, ((xs.take k).map (·.qa)).map Value.string = ls := ⟨_, rfl⟩
    rw [hls] at ho
    have HLS := Lib.hid hls
    have HO := Lib.hid ho
    have HB := Lib.hid hb
    clear hk ho hb hls
    by_cases hlt : k < n
    · have hkI : (k : Int) < (n : Int) := by omega
      have HX : Hid (k < n) := hlt
      obtain ⟨hnx, b, off, x, cs, rfl, hbl, hx, hR, _, hc⟩ := H.out.at_ k hlt
      clear hnx hbl
      have HXS := Lib.hid hx
      obtain ⟨qa, qb⟩ := x
      obtain ⟨rfl, _⟩ := hR
      have d0 : wr.cell? ⟨b, off + k * 2, none⟩ = some (.string qa) := cell_later HB.out (hc 0 _ rfl)
      have d1 : wr.cell? ⟨b, off + k * 2 + 1, none⟩ = some (.int .i64 qb) := cell_later HB.out (hc 1 _ rfl)
      have C := Lib.hid (nameLock_any qa qb   (wr.alloc (.cells #[.string qa, .int .i64 qb] 111)))
      clear hc hlt hx 
      go_wp2_with fail
      refine C.out.mono ?_
      rintro e W1 ⟨rfl, b1⟩
      have HO1 : Hid (W1.ownsRow w.heap.size 9 1 (.slice A k c) k ls) := own_below (own_below HO.out ((Below.refl _ _).alloc (Nat.le_refl _) _)) b1
      have HB1 : Hid (Below w.heap.size w W1) := (HB.out.alloc HB.out.size _).trans (b1.mono (by have := HB.out.size; simp; omega))
      have HS1 := Lib.hid HB1.out.size
      clear b1 C d0 d1
      go_wp2_with (at_builtin; refine wpList_append_own _ rfl _ _ 36 rfl w.heap.size 9 i0 (.string ⟨#[]⟩) 1 16 Try.underlying36 hi hz0 hz1 hz2 rfl (by decide) _ _ _ rfl (own_below HO1.out ((Below.refl _ _).alloc (Nat.le_refl _) _)) ⟨W1.heap.size, 0, none⟩ 1 1 [.string qa] rfl rfl ?c1 ?c2 ?c3 ?c4 ?c5 ?_)
      case c1 => intro j u hu; cases j with
        | zero => simp at hu; subst hu; rw [Addr.add_lit, World.cell?_alloc_new]; rfl
        | succ j => simp at hu
      case c2 => intro u hu; simp at hu; subst hu; rfl
      case c3 => have h1 := HX.out; have h2 := HM.out; unfold rowMax at h2; unfold maxLen; omega
      case c4 => have h1 := HX.out; have h2 := HM.out; unfold rowMax at h2; omega
      case c5 => have := HS1.out; simp; omega
      intro v' w2 hown hgrow _
      obtain ⟨A', c', rfl⟩ := own_form hown
      have HO2 : Hid (w2.ownsRow w.heap.size 9 1 (.slice A' (k + 1) c') (k + 1) (((xs.take (k + 1)).map (·.qa)).map Value.string)) := by
        have h1 := take_snoc_str (fun x : MLock => x.qa) HXS.out
        unfold Hid; rw [h1, HLS.out]; exact hown
      have HB2 : Hid (Below w.heap.size w w2) := by
        have h1 : Below w.heap.size w (W1.alloc (.cells #[.string qa] 9)) := HB1.out.alloc HB1.out.size _
        exact h1.grown hgrow (by have := HS1.out; simp; omega) (fun k hk => (HO1.out.lt k hk).1)
      clear hown hgrow
      go_wp2_with fail
      go_roundw
      case rel =>
        have Q : NmsRel (fun x : MLock => x.qa) n xs w (.slice A' (k + 1) c') (.int .i64 ((k : Int) + 1)) w2 := ⟨⟨k + 1, A', c', HX.out, rfl, by go_num, HO2.out, HB2.out⟩⟩
        first | exact Q | ((repeat apply Exists.intro); exact ⟨Q, rfl⟩)
      case measure => have := HX.out; simp [intOf]; omega
    · have hkI : ¬ (k : Int) < (n : Int) := by omega
      have HF : Hid (Row wr 1 RStr (.slice A k c) (xs.map (·.qa))) := by
        have h0 := HO.out
        rw [← HLS.out] at h0
        have := own_row h0 (by have := HK.out; have := HM.out; omega)
        rwa [List.take_of_length_le (by have := HN.out; omega)] at this
      go_wp2_with fail
      go_ret
      exact ⟨⟨_, rfl, HF.out⟩, HB.out⟩
theorem nameSema_any (qa : ByteArray) (qb : Int) (qc : Int) (qd : Bool) (w : World) : Calls Try.prog 73 #[.agg #[.string qa, .int .i64 qb, .int .i64 qc, .bool qd]] w fun e w' => e = .returned (.string qa) ∧ Below w.heap.size w w' := by
  go_enter Try.func73, Try.ntmps73
  go_wp2_with fail
  go_ret
  exact ⟨rfl, (Below.refl _ _).alloc (Nat.le_refl _) _⟩
set_option maxRecDepth 100000 in
set_option maxHeartbeats 4000000 in
theorem namesSema_any (v : Value) (xs : List MSema) (w : World) (h : Row w 4 RSema v xs) :
    Calls Try.prog 72 #[v, .func (.func 73) #[] #[]] w fun e w' => (∃ r, e = .returned r ∧ Row w' 1 RStr r (xs.map (·.qa))) ∧ Below w.heap.size w w' := by
  obtain ⟨i0, hi, hz0, hz1, hz2⟩ := info_of str_info
  obtain ⟨a, cap, rfl, hm⟩ := h.form
  obtain ⟨n, hn⟩ : ∃ n, xs.length = n := ⟨_, rfl⟩
  rw [hn] at h hm ⊢
  have HN := Lib.hid hn
  have HM := Lib.hid hm
  have H := Lib.hid h
  unfold rowMax at hm
  clear hn h
  go_enter Try.func72, Try.ntmps72
  go_wp2_with fail
  go_loopw [5, 10] (fun v5 v wr => NmsRel (·.qa) n xs w v5 v wr) (fun _ v => fun _ => n - (intOf v).toNat)
  case atStart => exact ⟨⟨0, none, 0, Nat.zero_le _, rfl, rfl, World.ownsRow_nil _ _ _ _, Below.refl _ _⟩⟩
  case round =>
    obtain ⟨⟨k, A, c, hk, rfl, rfl, ho, hb⟩⟩ := hrel
    have HK := Lib.hid hk
    obtain ⟨ls, hls⟩ : ∃ ls, ((xs.take k).map (·.qa)).map Value.string = ls := ⟨_, rfl⟩
    rw [hls] at ho
    have HLS := Lib.hid hls
    have HO := Lib.hid ho
    have HB := Lib.hid hb
    clear hk ho hb hls
    by_cases hlt : k < n
    · have hkI : (k : Int) < (n : Int) := by omega
      have HX : Hid (k < n) := hlt
      obtain ⟨hnx, b, off, x, cs, rfl, hbl, hx, hR, _, hc⟩ := H.out.at_ k hlt
      clear hnx hbl
      have HXS := Lib.hid hx
      obtain ⟨qa, qb, qc, qd⟩ := x
      obtain ⟨rfl, _⟩ := hR
      have d0 : wr.cell? ⟨b, off + k * 4, none⟩ = some (.string qa) := cell_later HB.out (hc 0 _ rfl)
      have d1 : wr.cell? ⟨b, off + k * 4 + 1, none⟩ = some (.int .i64 qb) := cell_later HB.out (hc 1 _ rfl)
      have d2 : wr.cell? ⟨b, off + k * 4 + 2, none⟩ = some (.int .i64 qc) := cell_later HB.out (hc 2 _ rfl)
      have d3 : wr.cell? ⟨b, off + k * 4 + 3, none⟩ = some (.bool qd) := cell_later HB.out (hc 3 _ rfl)
      have C := Lib.hid (nameSema_any qa qb qc qd   (wr.alloc (.cells #[.string qa, .int .i64 qb, .int .i64 qc, .bool qd] 113)))
      clear hc hlt hx 
      go_wp2_with fail
      refine C.out.mono ?_
      rintro e W1 ⟨rfl, b1⟩
      have HO1 : Hid (W1.ownsRow w.heap.size 9 1 (.slice A k c) k ls) := own_below (own_below HO.out ((Below.refl _ _).alloc (Nat.le_refl _) _)) b1
      have HB1 : Hid (Below w.heap.size w W1) := (HB.out.alloc HB.out.size _).trans (b1.mono (by have := HB.out.size; simp; omega))
      have HS1 := Lib.hid HB1.out.size
      clear b1 C d0 d1 d2 d3
      go_wp2_with (at_builtin; refine wpList_append_own _ rfl _ _ 36 rfl w.heap.size 9 i0 (.string ⟨#[]⟩) 1 16 Try.underlying36 hi hz0 hz1 hz2 rfl (by decide) _ _ _ rfl (own_below HO1.out ((Below.refl _ _).alloc (Nat.le_refl _) _)) ⟨W1.heap.size, 0, none⟩ 1 1 [.string qa] rfl rfl ?c1 ?c2 ?c3 ?c4 ?c5 ?_)
      case c1 => intro j u hu; cases j with
        | zero => simp at hu; subst hu; rw [Addr.add_lit, World.cell?_alloc_new]; rfl
        | succ j => simp at hu
      case c2 => intro u hu; simp at hu; subst hu; rfl
      case c3 => have h1 := HX.out; have h2 := HM.out; unfold rowMax at h2; unfold maxLen; omega
      case c4 => have h1 := HX.out; have h2 := HM.out; unfold rowMax at h2; omega
      case c5 => have := HS1.out; simp; omega
      intro v' w2 hown hgrow _
      obtain ⟨A', c', rfl⟩ := own_form hown
      have HO2 : Hid (w2.ownsRow w.heap.size 9 1 (.slice A' (k + 1) c') (k + 1) (((xs.take (k + 1)).map (·.qa)).map Value.string)) := by
        have h1 := take_snoc_str (fun x : MSema => x.qa) HXS.out
        unfold Hid; rw [h1, HLS.out]; exact hown
      have HB2 : Hid (Below w.heap.size w w2) := by
        have h1 : Below w.heap.size w (W1.alloc (.cells #[.string qa] 9)) := HB1.out.alloc HB1.out.size _
        exact h1.grown hgrow (by have := HS1.out; simp; omega) (fun k hk => (HO1.out.lt k hk).1)
      clear hown hgrow
      go_wp2_with fail
      go_roundw
      case rel =>
        have Q : NmsRel (fun x : MSema => x.qa) n xs w (.slice A' (k + 1) c') (.int .i64 ((k : Int) + 1)) w2 := ⟨⟨k + 1, A', c', HX.out, rfl, by go_num, HO2.out, HB2.out⟩⟩
        first | exact Q | ((repeat apply Exists.intro); exact ⟨Q, rfl⟩)
      case measure => have := HX.out; simp [intOf]; omega
    · have hkI : ¬ (k : Int) < (n : Int) := by omega
      have HF : Hid (Row wr 1 RStr (.slice A k c) (xs.map (·.qa))) := by
        have h0 := HO.out
        rw [← HLS.out] at h0
        have := own_row h0 (by have := HK.out; have := HM.out; omega)
        rwa [List.take_of_length_le (by have := HN.out; omega)] at this
      go_wp2_with fail
      go_ret
      exact ⟨⟨_, rfl, HF.out⟩, HB.out⟩
theorem nameEvent_any (qa : ByteArray) (w : World) : Calls Try.prog 75 #[.agg #[.string qa]] w fun e w' => e = .returned (.string qa) ∧ Below w.heap.size w w' := by
  go_enter Try.func75, Try.ntmps75
  go_wp2_with fail
  go_ret
  exact ⟨rfl, (Below.refl _ _).alloc (Nat.le_refl _) _⟩
set_option maxRecDepth 100000 in
set_option maxHeartbeats 4000000 in
theorem namesEvent_any (v : Value) (xs : List MEvent) (w : World) (h : Row w 1 REvent v xs) :
    Calls Try.prog 74 #[v, .func (.func 75) #[] #[]] w fun e w' => (∃ r, e = .returned r ∧ Row w' 1 RStr r (xs.map (·.qa))) ∧ Below w.heap.size w w' := by
  obtain ⟨i0, hi, hz0, hz1, hz2⟩ := info_of str_info
  obtain ⟨a, cap, rfl, hm⟩ := h.form
  obtain ⟨n, hn⟩ : ∃ n, xs.length = n := ⟨_, rfl⟩
  rw [hn] at h hm ⊢
  have HN := Lib.hid hn
  have HM := Lib.hid hm
  have H := Lib.hid h
  unfold rowMax at hm
  clear hn h
  go_enter Try.func74, Try.ntmps74
  go_wp2_with fail
  go_loopw [5, 10] (fun v5 v wr => NmsRel (·.qa) n xs w v5 v wr) (fun _ v => fun _ => n - (intOf v).toNat)
  case atStart => exact ⟨⟨0, none, 0, Nat.zero_le _, rfl, rfl, World.ownsRow_nil _ _ _ _, Below.refl _ _⟩⟩
  case round =>
    obtain ⟨⟨k, A, c, hk, rfl, rfl, ho, hb⟩⟩ := hrel
    have HK := Lib.hid hk
    obtain ⟨ls, hls⟩ : ∃ ls, ((xs.take k).map (·.qa)).map Value.string = ls := ⟨_, rfl⟩
    rw [hls] at ho
    have HLS := Lib.hid hls
    have HO := Lib.hid ho
    have HB := Lib.hid hb
    clear hk ho hb hls
    by_cases hlt : k < n
    · have hkI : (k : Int) < (n : Int) := by omega
      have HX : Hid (k < n) := hlt
      obtain ⟨hnx, b, off, x, cs, rfl, hbl, hx, hR, _, hc⟩ := H.out.at_ k hlt
      clear hnx hbl
      have HXS := Lib.hid hx
      obtain ⟨qa⟩ := x
      obtain ⟨rfl, _⟩ := hR
      have d0 : wr.cell? ⟨b, off + k, none⟩ = some (.string qa) := cell_later HB.out (by simpa using hc 0 _ rfl)
      have C := Lib.hid (nameEvent_any qa   (wr.alloc (.cells #[.string qa] 115)))
      clear hc hlt hx 
      go_wp2_with fail
      refine C.out.mono ?_
      rintro e W1 ⟨rfl, b1⟩
      have HO1 : Hid (W1.ownsRow w.heap.size 9 1 (.slice A k c) k ls) := own_below (own_below HO.out ((Below.refl _ _).alloc (Nat.le_refl _) _)) b1
      have HB1 : Hid (Below w.heap.size w W1) := (HB.out.alloc HB.out.size _).trans (b1.mono (by have := HB.out.size; simp; omega))
      have HS1 := Lib.hid HB1.out.size
      clear b1 C d0
      go_wp2_with (at_builtin; refine wpList_append_own _ rfl _ _ 36 rfl w.heap.size 9 i0 (.string ⟨#[]⟩) 1 16 Try.underlying36 hi hz0 hz1 hz2 rfl (by decide) _ _ _ rfl (own_below HO1.out ((Below.refl _ _).alloc (Nat.le_refl _) _)) ⟨W1.heap.size, 0, none⟩ 1 1 [.string qa] rfl rfl ?c1 ?c2 ?c3 ?c4 ?c5 ?_)
      case c1 => intro j u hu; cases j with
        | zero => simp at hu; subst hu; rw [Addr.add_lit, World.cell?_alloc_new]; rfl
        | succ j => simp at hu
      case c2 => intro u hu; simp at hu; subst hu; rfl
      case c3 => have h1 := HX.out; have h2 := HM.out; unfold rowMax at h2; unfold maxLen; omega
      case c4 => have h1 := HX.out; have h2 := HM.out; unfold rowMax at h2; omega
      case c5 => have := HS1.out; simp; omega
      intro v' w2 hown hgrow _
      obtain ⟨A', c', rfl⟩ := own_form hown
      have HO2 : Hid (w2.ownsRow w.heap.size 9 1 (.slice A' (k + 1) c') (k + 1) (((xs.take (k + 1)).map (·.qa)).map Value.string)) := by
        have h1 := take_snoc_str (fun x : MEvent => x.qa) HXS.out
        unfold Hid; rw [h1, HLS.out]; exact hown
      have HB2 : Hid (Below w.heap.size w w2) := by
        have h1 : Below w.heap.size w (W1.alloc (.cells #[.string qa] 9)) := HB1.out.alloc HB1.out.size _
        exact h1.grown hgrow (by have := HS1.out; simp; omega) (fun k hk => (HO1.out.lt k hk).1)
      clear hown hgrow
      go_wp2_with fail
      go_roundw
      case rel =>
        have Q : NmsRel (fun x : MEvent => x.qa) n xs w (.slice A' (k + 1) c') (.int .i64 ((k : Int) + 1)) w2 := ⟨⟨k + 1, A', c', HX.out, rfl, by go_num, HO2.out, HB2.out⟩⟩
        first | exact Q | ((repeat apply Exists.intro); exact ⟨Q, rfl⟩)
      case measure => have := HX.out; simp [intOf]; omega
    · have hkI : ¬ (k : Int) < (n : Int) := by omega
      have HF : Hid (Row wr 1 RStr (.slice A k c) (xs.map (·.qa))) := by
        have h0 := HO.out
        rw [← HLS.out] at h0
        have := own_row h0 (by have := HK.out; have := HM.out; omega)
        rwa [List.take_of_length_le (by have := HN.out; omega)] at this
      go_wp2_with fail
      go_ret
      exact ⟨⟨_, rfl, HF.out⟩, HB.out⟩
theorem nameBoard_any (qa : ByteArray) (qb : Int) (w : World) : Calls Try.prog 77 #[.agg #[.string qa, .int .i64 qb]] w fun e w' => e = .returned (.string qa) ∧ Below w.heap.size w w' := by
  go_enter Try.func77, Try.ntmps77
  go_wp2_with fail
  go_ret
  exact ⟨rfl, (Below.refl _ _).alloc (Nat.le_refl _) _⟩
set_option maxRecDepth 100000 in
set_option maxHeartbeats 4000000 in
theorem namesBoard_any (v : Value) (xs : List MBoard) (w : World) (h : Row w 2 RBoard v xs) :
    Calls Try.prog 76 #[v, .func (.func 77) #[] #[]] w fun e w' => (∃ r, e = .returned r ∧ Row w' 1 RStr r (xs.map (·.qa))) ∧ Below w.heap.size w w' := by
  obtain ⟨i0, hi, hz0, hz1, hz2⟩ := info_of str_info
  obtain ⟨a, cap, rfl, hm⟩ := h.form
  obtain ⟨n, hn⟩ : ∃ n, xs.length = n := ⟨_, rfl⟩
  rw [hn] at h hm ⊢
  have HN := Lib.hid hn
  have HM := Lib.hid hm
  have H := Lib.hid h
  unfold rowMax at hm
  clear hn h
  go_enter Try.func76, Try.ntmps76
  go_wp2_with fail
  go_loopw [5, 10] (fun v5 v wr => NmsRel (·.qa) n xs w v5 v wr) (fun _ v => fun _ => n - (intOf v).toNat)
  case atStart => exact ⟨⟨0, none, 0, Nat.zero_le _, rfl, rfl, World.ownsRow_nil _ _ _ _, Below.refl _ _⟩⟩
  case round =>
    obtain ⟨⟨k, A, c, hk, rfl, rfl, ho, hb⟩⟩ := hrel
    have HK := Lib.hid hk
    obtain ⟨ls, hls⟩ : ∃ ls, ((xs.take k).map (·.qa)).map Value.string = ls := ⟨_, rfl⟩
    rw [hls] at ho
    have HLS := Lib.hid hls
    have HO := Lib.hid ho
    have HB := Lib.hid hb
    clear hk ho hb hls
    by_cases hlt : k < n
    · have hkI : (k : Int) < (n : Int) := by omega
      have HX : Hid (k < n) := hlt
      obtain ⟨hnx, b, off, x, cs, rfl, hbl, hx, hR, _, hc⟩ := H.out.at_ k hlt
      clear hnx hbl
      have HXS := Lib.hid hx
      obtain ⟨qa, qb⟩ := x
      obtain ⟨rfl, _⟩ := hR
      have d0 : wr.cell? ⟨b, off + k * 2, none⟩ = some (.string qa) := cell_later HB.out (hc 0 _ rfl)
      have d1 : wr.cell? ⟨b, off + k * 2 + 1, none⟩ = some (.int .i64 qb) := cell_later HB.out (hc 1 _ rfl)
      have C := Lib.hid (nameBoard_any qa qb   (wr.alloc (.cells #[.string qa, .int .i64 qb] 117)))
      clear hc hlt hx 
      go_wp2_with fail
      refine C.out.mono ?_
      rintro e W1 ⟨rfl, b1⟩
      have HO1 : Hid (W1.ownsRow w.heap.size 9 1 (.slice A k c) k ls) := own_below (own_below HO.out ((Below.refl _ _).alloc (Nat.le_refl _) _)) b1
      have HB1 : Hid (Below w.heap.size w W1) := (HB.out.alloc HB.out.size _).trans (b1.mono (by have := HB.out.size; simp; omega))
      have HS1 := Lib.hid HB1.out.size
      clear b1 C d0 d1
      go_wp2_with (at_builtin; refine wpList_append_own _ rfl _ _ 36 rfl w.heap.size 9 i0 (.string ⟨#[]⟩) 1 16 Try.underlying36 hi hz0 hz1 hz2 rfl (by decide) _ _ _ rfl (own_below HO1.out ((Below.refl _ _).alloc (Nat.le_refl _) _)) ⟨W1.heap.size, 0, none⟩ 1 1 [.string qa] rfl rfl ?c1 ?c2 ?c3 ?c4 ?c5 ?_)
      case c1 => intro j u hu; cases j with
        | zero => simp at hu; subst hu; rw [Addr.add_lit, World.cell?_alloc_new]; rfl
        | succ j => simp at hu
      case c2 => intro u hu; simp at hu; subst hu; rfl
      case c3 => have h1 := HX.out; have h2 := HM.out; unfold rowMax at h2; unfold maxLen; omega
      case c4 => have h1 := HX.out; have h2 := HM.out; unfold rowMax at h2; omega
      case c5 => have := HS1.out; simp; omega
      intro v' w2 hown hgrow _
      obtain ⟨A', c', rfl⟩ := own_form hown
      have HO2 : Hid (w2.ownsRow w.heap.size 9 1 (.slice A' (k + 1) c') (k + 1) (((xs.take (k + 1)).map (·.qa)).map Value.string)) := by
        have h1 := take_snoc_str (fun x : MBoard => x.qa) HXS.out
        unfold Hid; rw [h1, HLS.out]; exact hown
      have HB2 : Hid (Below w.heap.size w w2) := by
        have h1 : Below w.heap.size w (W1.alloc (.cells #[.string qa] 9)) := HB1.out.alloc HB1.out.size _
        exact h1.grown hgrow (by have := HS1.out; simp; omega) (fun k hk => (HO1.out.lt k hk).1)
      clear hown hgrow
      go_wp2_with fail
      go_roundw
      case rel =>
        have Q : NmsRel (fun x : MBoard => x.qa) n xs w (.slice A' (k + 1) c') (.int .i64 ((k : Int) + 1)) w2 := ⟨⟨k + 1, A', c', HX.out, rfl, by go_num, HO2.out, HB2.out⟩⟩
        first | exact Q | ((repeat apply Exists.intro); exact ⟨Q, rfl⟩)
      case measure => have := HX.out; simp [intOf]; omega
    · have hkI : ¬ (k : Int) < (n : Int) := by omega
      have HF : Hid (Row wr 1 RStr (.slice A k c) (xs.map (·.qa))) := by
        have h0 := HO.out
        rw [← HLS.out] at h0
        have := own_row h0 (by have := HK.out; have := HM.out; omega)
        rwa [List.take_of_length_le (by have := HN.out; omega)] at this
      go_wp2_with fail
      go_ret
      exact ⟨⟨_, rfl, HF.out⟩, HB.out⟩
theorem nameBuffer_any (qa : ByteArray) (qb : Int) (qc : Int) (qd : Bool) (w : World) : Calls Try.prog 79 #[.agg #[.string qa, .int .i64 qb, .int .i64 qc, .bool qd]] w fun e w' => e = .returned (.string qa) ∧ Below w.heap.size w w' := by
  go_enter Try.func79, Try.ntmps79
  go_wp2_with fail
  go_ret
  exact ⟨rfl, (Below.refl _ _).alloc (Nat.le_refl _) _⟩
set_option maxRecDepth 100000 in
set_option maxHeartbeats 4000000 in
theorem namesBuffer_any (v : Value) (xs : List MBuffer) (w : World) (h : Row w 4 RBuffer v xs) :
    Calls Try.prog 78 #[v, .func (.func 79) #[] #[]] w fun e w' => (∃ r, e = .returned r ∧ Row w' 1 RStr r (xs.map (·.qa))) ∧ Below w.heap.size w w' := by
  obtain ⟨i0, hi, hz0, hz1, hz2⟩ := info_of str_info
  obtain ⟨a, cap, rfl, hm⟩ := h.form
  obtain ⟨n, hn⟩ : ∃ n, xs.length = n := ⟨_, rfl⟩
  rw [hn] at h hm ⊢
  have HN := Lib.hid hn
  have HM := Lib.hid hm
  have H := Lib.hid h
  unfold rowMax at hm
  clear hn h
  go_enter Try.func78, Try.ntmps78
  go_wp2_with fail
  go_loopw [5, 10] (fun v5 v wr => NmsRel (·.qa) n xs w v5 v wr) (fun _ v => fun _ => n - (intOf v).toNat)
  case atStart => exact ⟨⟨0, none, 0, Nat.zero_le _, rfl, rfl, World.ownsRow_nil _ _ _ _, Below.refl _ _⟩⟩
  case round =>
    obtain ⟨⟨k, A, c, hk, rfl, rfl, ho, hb⟩⟩ := hrel
    have HK := Lib.hid hk
    obtain ⟨ls, hls⟩ : ∃ ls, ((xs.take k).map (·.qa)).map Value.string = ls := ⟨_, rfl⟩
    rw [hls] at ho
    have HLS := Lib.hid hls
    have HO := Lib.hid ho
    have HB := Lib.hid hb
    clear hk ho hb hls
    by_cases hlt : k < n
    · have hkI : (k : Int) < (n : Int) := by omega
      have HX : Hid (k < n) := hlt
      obtain ⟨hnx, b, off, x, cs, rfl, hbl, hx, hR, _, hc⟩ := H.out.at_ k hlt
      clear hnx hbl
      have HXS := Lib.hid hx
      obtain ⟨qa, qb, qc, qd⟩ := x
      obtain ⟨rfl, _⟩ := hR
      have d0 : wr.cell? ⟨b, off + k * 4, none⟩ = some (.string qa) := cell_later HB.out (hc 0 _ rfl)
      have d1 : wr.cell? ⟨b, off + k * 4 + 1, none⟩ = some (.int .i64 qb) := cell_later HB.out (hc 1 _ rfl)
      have d2 : wr.cell? ⟨b, off + k * 4 + 2, none⟩ = some (.int .i64 qc) := cell_later HB.out (hc 2 _ rfl)
      have d3 : wr.cell? ⟨b, off + k * 4 + 3, none⟩ = some (.bool qd) := cell_later HB.out (hc 3 _ rfl)
      have C := Lib.hid (nameBuffer_any qa qb qc qd   (wr.alloc (.cells #[.string qa, .int .i64 qb, .int .i64 qc, .bool qd] 119)))
      clear hc hlt hx 
      go_wp2_with fail
      refine C.out.mono ?_
      rintro e W1 ⟨rfl, b1⟩
      have HO1 : Hid (W1.ownsRow w.heap.size 9 1 (.slice A k c) k ls) := own_below (own_below HO.out ((Below.refl _ _).alloc (Nat.le_refl _) _)) b1
      have HB1 : Hid (Below w.heap.size w W1) := (HB.out.alloc HB.out.size _).trans (b1.mono (by have := HB.out.size; simp; omega))
      have HS1 := Lib.hid HB1.out.size
      clear b1 C d0 d1 d2 d3
      go_wp2_with (at_builtin; refine wpList_append_own _ rfl _ _ 36 rfl w.heap.size 9 i0 (.string ⟨#[]⟩) 1 16 Try.underlying36 hi hz0 hz1 hz2 rfl (by decide) _ _ _ rfl (own_below HO1.out ((Below.refl _ _).alloc (Nat.le_refl _) _)) ⟨W1.heap.size, 0, none⟩ 1 1 [.string qa] rfl rfl ?c1 ?c2 ?c3 ?c4 ?c5 ?_)
      case c1 => intro j u hu; cases j with
        | zero => simp at hu; subst hu; rw [Addr.add_lit, World.cell?_alloc_new]; rfl
        | succ j => simp at hu
      case c2 => intro u hu; simp at hu; subst hu; rfl
      case c3 => have h1 := HX.out; have h2 := HM.out; unfold rowMax at h2; unfold maxLen; omega
      case c4 => have h1 := HX.out; have h2 := HM.out; unfold rowMax at h2; omega
      case c5 => have := HS1.out; simp; omega
      intro v' w2 hown hgrow _
      obtain ⟨A', c', rfl⟩ := own_form hown
      have HO2 : Hid (w2.ownsRow w.heap.size 9 1 (.slice A' (k + 1) c') (k + 1) (((xs.take (k + 1)).map (·.qa)).map Value.string)) := by
        have h1 := take_snoc_str (fun x : MBuffer => x.qa) HXS.out
        unfold Hid; rw [h1, HLS.out]; exact hown
      have HB2 : Hid (Below w.heap.size w w2) := by
        have h1 : Below w.heap.size w (W1.alloc (.cells #[.string qa] 9)) := HB1.out.alloc HB1.out.size _
        exact h1.grown hgrow (by have := HS1.out; simp; omega) (fun k hk => (HO1.out.lt k hk).1)
      clear hown hgrow
      go_wp2_with fail
      go_roundw
      case rel =>
        have Q : NmsRel (fun x : MBuffer => x.qa) n xs w (.slice A' (k + 1) c') (.int .i64 ((k : Int) + 1)) w2 := ⟨⟨k + 1, A', c', HX.out, rfl, by go_num, HO2.out, HB2.out⟩⟩
        first | exact Q | ((repeat apply Exists.intro); exact ⟨Q, rfl⟩)
      case measure => have := HX.out; simp [intOf]; omega
    · have hkI : ¬ (k : Int) < (n : Int) := by omega
      have HF : Hid (Row wr 1 RStr (.slice A k c) (xs.map (·.qa))) := by
        have h0 := HO.out
        rw [← HLS.out] at h0
        have := own_row h0 (by have := HK.out; have := HM.out; omega)
        rwa [List.take_of_length_le (by have := HN.out; omega)] at this
      go_wp2_with fail
      go_ret
      exact ⟨⟨_, rfl, HF.out⟩, HB.out⟩
theorem nameSchedule_any (qa : ByteArray) (qb : Int) (qc : List MWindow) (aqc : Option Addr) (cqc : Nat) (w : World) : Calls Try.prog 62 #[.agg #[.string qa, .int .i64 qb, .slice aqc qc.length cqc]] w fun e w' => e = .returned (.string qa) ∧ Below w.heap.size w w' := by
  go_enter Try.func62, Try.ntmps62
  go_wp2_with fail
  go_ret
  exact ⟨rfl, (Below.refl _ _).alloc (Nat.le_refl _) _⟩
set_option maxRecDepth 100000 in
set_option maxHeartbeats 4000000 in
theorem namesSchedule_any (v : Value) (xs : List MSchedule) (w : World) (h : Row w 3 (RSchedule w) v xs) :
    Calls Try.prog 61 #[v, .func (.func 62) #[] #[]] w fun e w' => (∃ r, e = .returned r ∧ Row w' 1 RStr r (xs.map (·.qa))) ∧ Below w.heap.size w w' := by
  obtain ⟨i0, hi, hz0, hz1, hz2⟩ := info_of str_info
  obtain ⟨a, cap, rfl, hm⟩ := h.form
  obtain ⟨n, hn⟩ : ∃ n, xs.length = n := ⟨_, rfl⟩
  rw [hn] at h hm ⊢
  have HN := Lib.hid hn
  have HM := Lib.hid hm
  have H := Lib.hid h
  unfold rowMax at hm
  clear hn h
  go_enter Try.func61, Try.ntmps61
  go_wp2_with fail
  go_loopw [5, 10] (fun v5 v wr => NmsRel (·.qa) n xs w v5 v wr) (fun _ v => fun _ => n - (intOf v).toNat)
  case atStart => exact ⟨⟨0, none, 0, Nat.zero_le _, rfl, rfl, World.ownsRow_nil _ _ _ _, Below.refl _ _⟩⟩
  case round =>
    obtain ⟨⟨k, A, c, hk, rfl, rfl, ho, hb⟩⟩ := hrel
    have HK := Lib.hid hk
    obtain ⟨ls, hls⟩ : ∃ ls, ((xs.take k).map (·.qa)).map Value.string = ls := ⟨_, rfl⟩
    rw [hls] at ho
    have HLS := Lib.hid hls
    have HO := Lib.hid ho
    have HB := Lib.hid hb
    clear hk ho hb hls
    by_cases hlt : k < n
    · have hkI : (k : Int) < (n : Int) := by omega
      have HX : Hid (k < n) := hlt
      obtain ⟨hnx, b, off, x, cs, rfl, hbl, hx, hR, _, hc⟩ := H.out.at_ k hlt
      clear hnx hbl
      have HXS := Lib.hid hx
      obtain ⟨qa, qb, qc⟩ := x
      obtain ⟨vqc, rfl, _, hqc⟩ := hR
      obtain ⟨aqc, cqc, rfl, hmqc⟩ := hqc.form
      clear hmqc
      have d0 : wr.cell? ⟨b, off + k * 3, none⟩ = some (.string qa) := cell_later HB.out (hc 0 _ rfl)
      have d1 : wr.cell? ⟨b, off + k * 3 + 1, none⟩ = some (.int .i64 qb) := cell_later HB.out (hc 1 _ rfl)
      have d2 : wr.cell? ⟨b, off + k * 3 + 2, none⟩ = some (.slice aqc qc.length cqc) := cell_later HB.out (hc 2 _ rfl)
      have C := Lib.hid (nameSchedule_any qa qb qc aqc cqc (wr.alloc (.cells #[.string qa, .int .i64 qb, .slice aqc qc.length cqc] 65)))
      clear hc hlt hx hqc
      go_wp2_with fail
      refine C.out.mono ?_
      rintro e W1 ⟨rfl, b1⟩
      have HO1 : Hid (W1.ownsRow w.heap.size 9 1 (.slice A k c) k ls) := own_below (own_below HO.out ((Below.refl _ _).alloc (Nat.le_refl _) _)) b1
      have HB1 : Hid (Below w.heap.size w W1) := (HB.out.alloc HB.out.size _).trans (b1.mono (by have := HB.out.size; simp; omega))
      have HS1 := Lib.hid HB1.out.size
      clear b1 C d0 d1 d2
      go_wp2_with (at_builtin; refine wpList_append_own _ rfl _ _ 36 rfl w.heap.size 9 i0 (.string ⟨#[]⟩) 1 16 Try.underlying36 hi hz0 hz1 hz2 rfl (by decide) _ _ _ rfl (own_below HO1.out ((Below.refl _ _).alloc (Nat.le_refl _) _)) ⟨W1.heap.size, 0, none⟩ 1 1 [.string qa] rfl rfl ?c1 ?c2 ?c3 ?c4 ?c5 ?_)
      case c1 => intro j u hu; cases j with
        | zero => simp at hu; subst hu; rw [Addr.add_lit, World.cell?_alloc_new]; rfl
        | succ j => simp at hu
      case c2 => intro u hu; simp at hu; subst hu; rfl
      case c3 => have h1 := HX.out; have h2 := HM.out; unfold rowMax at h2; unfold maxLen; omega
      case c4 => have h1 := HX.out; have h2 := HM.out; unfold rowMax at h2; omega
      case c5 => have := HS1.out; simp; omega
      intro v' w2 hown hgrow _
      obtain ⟨A', c', rfl⟩ := own_form hown
      have HO2 : Hid (w2.ownsRow w.heap.size 9 1 (.slice A' (k + 1) c') (k + 1) (((xs.take (k + 1)).map (·.qa)).map Value.string)) := by
        have h1 := take_snoc_str (fun x : MSchedule => x.qa) HXS.out
        unfold Hid; rw [h1, HLS.out]; exact hown
      have HB2 : Hid (Below w.heap.size w w2) := by
        have h1 : Below w.heap.size w (W1.alloc (.cells #[.string qa] 9)) := HB1.out.alloc HB1.out.size _
        exact h1.grown hgrow (by have := HS1.out; simp; omega) (fun k hk => (HO1.out.lt k hk).1)
      clear hown hgrow
      go_wp2_with fail
      go_roundw
      case rel =>
        have Q : NmsRel (fun x : MSchedule => x.qa) n xs w (.slice A' (k + 1) c') (.int .i64 ((k : Int) + 1)) w2 := ⟨⟨k + 1, A', c', HX.out, rfl, by go_num, HO2.out, HB2.out⟩⟩
        first | exact Q | ((repeat apply Exists.intro); exact ⟨Q, rfl⟩)
      case measure => have := HX.out; simp [intOf]; omega
    · have hkI : ¬ (k : Int) < (n : Int) := by omega
      have HF : Hid (Row wr 1 RStr (.slice A k c) (xs.map (·.qa))) := by
        have h0 := HO.out
        rw [← HLS.out] at h0
        have := own_row h0 (by have := HK.out; have := HM.out; omega)
        rwa [List.take_of_length_le (by have := HN.out; omega)] at this
      go_wp2_with fail
      go_ret
      exact ⟨⟨_, rfl, HF.out⟩, HB.out⟩
theorem nameLink_any (qa : ByteArray) (qb : Int) (qc : Int) (w : World) : Calls Try.prog 64 #[.agg #[.string qa, .int .i64 qb, .int .i64 qc]] w fun e w' => e = .returned (.string qa) ∧ Below w.heap.size w w' := by
  go_enter Try.func64, Try.ntmps64
  go_wp2_with fail
  go_ret
  exact ⟨rfl, (Below.refl _ _).alloc (Nat.le_refl _) _⟩
set_option maxRecDepth 100000 in
set_option maxHeartbeats 4000000 in
theorem namesLink_any (v : Value) (xs : List MLink) (w : World) (h : Row w 3 RLink v xs) :
    Calls Try.prog 63 #[v, .func (.func 64) #[] #[]] w fun e w' => (∃ r, e = .returned r ∧ Row w' 1 RStr r (xs.map (·.qa))) ∧ Below w.heap.size w w' := by
  obtain ⟨i0, hi, hz0, hz1, hz2⟩ := info_of str_info
  obtain ⟨a, cap, rfl, hm⟩ := h.form
  obtain ⟨n, hn⟩ : ∃ n, xs.length = n := ⟨_, rfl⟩
  rw [hn] at h hm ⊢
  have HN := Lib.hid hn
  have HM := Lib.hid hm
  have H := Lib.hid h
  unfold rowMax at hm
  clear hn h
  go_enter Try.func63, Try.ntmps63
  go_wp2_with fail
  go_loopw [5, 10] (fun v5 v wr => NmsRel (·.qa) n xs w v5 v wr) (fun _ v => fun _ => n - (intOf v).toNat)
  case atStart => exact ⟨⟨0, none, 0, Nat.zero_le _, rfl, rfl, World.ownsRow_nil _ _ _ _, Below.refl _ _⟩⟩
  case round =>
    obtain ⟨⟨k, A, c, hk, rfl, rfl, ho, hb⟩⟩ := hrel
    have HK := Lib.hid hk
    obtain ⟨ls, hls⟩ : ∃ ls, ((xs.take k).map (·.qa)).map Value.string = ls := ⟨_, rfl⟩
    rw [hls] at ho
    have HLS := Lib.hid hls
    have HO := Lib.hid ho
    have HB := Lib.hid hb
    clear hk ho hb hls
    by_cases hlt : k < n
    · have hkI : (k : Int) < (n : Int) := by omega
      have HX : Hid (k < n) := hlt
      obtain ⟨hnx, b, off, x, cs, rfl, hbl, hx, hR, _, hc⟩ := H.out.at_ k hlt
      clear hnx hbl
      have HXS := Lib.hid hx
      obtain ⟨qa, qb, qc⟩ := x
      obtain ⟨rfl, _⟩ := hR
      have d0 : wr.cell? ⟨b, off + k * 3, none⟩ = some (.string qa) := cell_later HB.out (hc 0 _ rfl)
      have d1 : wr.cell? ⟨b, off + k * 3 + 1, none⟩ = some (.int .i64 qb) := cell_later HB.out (hc 1 _ rfl)
      have d2 : wr.cell? ⟨b, off + k * 3 + 2, none⟩ = some (.int .i64 qc) := cell_later HB.out (hc 2 _ rfl)
      have C := Lib.hid (nameLink_any qa qb qc   (wr.alloc (.cells #[.string qa, .int .i64 qb, .int .i64 qc] 76)))
      clear hc hlt hx 
      go_wp2_with fail
      refine C.out.mono ?_
      rintro e W1 ⟨rfl, b1⟩
      have HO1 : Hid (W1.ownsRow w.heap.size 9 1 (.slice A k c) k ls) := own_below (own_below HO.out ((Below.refl _ _).alloc (Nat.le_refl _) _)) b1
      have HB1 : Hid (Below w.heap.size w W1) := (HB.out.alloc HB.out.size _).trans (b1.mono (by have := HB.out.size; simp; omega))
      have HS1 := Lib.hid HB1.out.size
      clear b1 C d0 d1 d2
      go_wp2_with (at_builtin; refine wpList_append_own _ rfl _ _ 36 rfl w.heap.size 9 i0 (.string ⟨#[]⟩) 1 16 Try.underlying36 hi hz0 hz1 hz2 rfl (by decide) _ _ _ rfl (own_below HO1.out ((Below.refl _ _).alloc (Nat.le_refl _) _)) ⟨W1.heap.size, 0, none⟩ 1 1 [.string qa] rfl rfl ?c1 ?c2 ?c3 ?c4 ?c5 ?_)
      case c1 => intro j u hu; cases j with
        | zero => simp at hu; subst hu; rw [Addr.add_lit, World.cell?_alloc_new]; rfl
        | succ j => simp at hu
      case c2 => intro u hu; simp at hu; subst hu; rfl
      case c3 => have h1 := HX.out; have h2 := HM.out; unfold rowMax at h2; unfold maxLen; omega
      case c4 => have h1 := HX.out; have h2 := HM.out; unfold rowMax at h2; omega
      case c5 => have := HS1.out; simp; omega
      intro v' w2 hown hgrow _
      obtain ⟨A', c', rfl⟩ := own_form hown
      have HO2 : Hid (w2.ownsRow w.heap.size 9 1 (.slice A' (k + 1) c') (k + 1) (((xs.take (k + 1)).map (·.qa)).map Value.string)) := by
        have h1 := take_snoc_str (fun x : MLink => x.qa) HXS.out
        unfold Hid; rw [h1, HLS.out]; exact hown
      have HB2 : Hid (Below w.heap.size w w2) := by
        have h1 : Below w.heap.size w (W1.alloc (.cells #[.string qa] 9)) := HB1.out.alloc HB1.out.size _
        exact h1.grown hgrow (by have := HS1.out; simp; omega) (fun k hk => (HO1.out.lt k hk).1)
      clear hown hgrow
      go_wp2_with fail
      go_roundw
      case rel =>
        have Q : NmsRel (fun x : MLink => x.qa) n xs w (.slice A' (k + 1) c') (.int .i64 ((k : Int) + 1)) w2 := ⟨⟨k + 1, A', c', HX.out, rfl, by go_num, HO2.out, HB2.out⟩⟩
        first | exact Q | ((repeat apply Exists.intro); exact ⟨Q, rfl⟩)
      case measure => have := HX.out; simp [intOf]; omega
    · have hkI : ¬ (k : Int) < (n : Int) := by omega
      have HF : Hid (Row wr 1 RStr (.slice A k c) (xs.map (·.qa))) := by
        have h0 := HO.out
        rw [← HLS.out] at h0
        have := own_row h0 (by have := HK.out; have := HM.out; omega)
        rwa [List.take_of_length_le (by have := HN.out; omega)] at this
      go_wp2_with fail
      go_ret
      exact ⟨⟨_, rfl, HF.out⟩, HB.out⟩
end Go.Proofs.Ytchlgihanogeeaa
