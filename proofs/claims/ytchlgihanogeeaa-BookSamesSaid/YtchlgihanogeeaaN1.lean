/-
  Names of partitions and ports. Each statement bears its own conditions.
-/
import Derived.Test.YtchlgihanogeeaaN0
import Derived.Laws.OwnMore
namespace Go.Proofs.Ytchlgihanogeeaa
open Go.RowKit
set_option linter.unusedVariables false
set_option linter.unusedSimpArgs false
theorem namePartition_any (qa : ByteArray) (qb : List MArea) (qc : List MTask) (qd : List MLock) (qe : List MSema) (qf : List MEvent) (qg : List MBoard) (qh : List MBuffer) (qi : List MPort) (qj : List MRule) (qk : Int) (ql : Int) (qm : Int) (aqb aqc aqd aqe aqf aqg aqh aqi aqj : Option Addr) (cqb cqc cqd cqe cqf cqg cqh cqi cqj : Nat) (w : World) : Calls Try.prog 60 #[.agg #[.string qa, .slice aqb qb.length cqb, .slice aqc qc.length cqc, .slice aqd qd.length cqd, .slice aqe qe.length cqe, .slice aqf qf.length cqf, .slice aqg qg.length cqg, .slice aqh qh.length cqh, .slice aqi qi.length cqi, .slice aqj qj.length cqj, .int .i64 qk, .int .i64 ql, .int .i64 qm]] w fun e w' => e = .returned (.string qa) ∧ Below w.heap.size w w' := by
  go_enter Try.func60, Try.ntmps60
  go_wp2_with fail
  go_ret
  exact ⟨rfl, (Below.refl _ _).alloc (Nat.le_refl _) _⟩
set_option maxRecDepth 100000 in
set_option maxHeartbeats 4000000 in
theorem namesPartition_any (v : Value) (xs : List MPartition) (w : World) (h : Row w 13 (RPartition w) v xs) :
    Calls Try.prog 59 #[v, .func (.func 60) #[] #[]] w fun e w' => (∃ r, e = .returned r ∧ Row w' 1 RStr r (xs.map (·.qa))) ∧ Below w.heap.size w w' := by
  obtain ⟨i0, hi, hz0, hz1, hz2⟩ := info_of str_info
  obtain ⟨a, cap, rfl, hm⟩ := h.form
  obtain ⟨n, hn⟩ : ∃ n, xs.length = n := ⟨_, rfl⟩
  rw [hn] at h hm ⊢
  have HN := Lib.hid hn
  have HM := Lib.hid hm
  have H := Lib.hid h
  unfold rowMax at hm
  clear hn h
  go_enter Try.func59, Try.ntmps59
  go_wp2_with fail
  go_loopw [5, 10] (fun v5 v wr => NmsRel (·.qa) n xs w v5 v wr) (fun _ v => fun _ => n - (intOf v).toNat)
  case atStart => exact ⟨⟨0, none, 0, Nat.zero_le _, rfl, rfl, World.ownsRow_nil _ _ _ _, Below.refl _ _⟩⟩
  case round =>
    obtain ⟨⟨k, A, c, hk, rfl, rfl, ho, hb⟩⟩ := hrel
    have HK := Lib.hid hk
    obtain ⟨ls, hls⟩ : ∃ ls, ((xs.take k).map (·.qa)).map Value.string = ls := ⟨_, rfl⟩
    rw [hls] at ho
    have HLS := Lib.hid hls
    have HO := Lib.hid ho
    have HB := Lib.hid hb
    clear hk ho hb hls
    by_cases hlt : k < n
    · have hkI : (k : Int) < (n : Int) := by omega
      have HX : Hid (k < n) := hlt
      obtain ⟨hnx, b, off, x, cs, rfl, hbl, hx, hR, _, hc⟩ := H.out.at_ k hlt
      clear hnx hbl
      have HXS := Lib.hid hx
      obtain ⟨qa, qb, qc, qd, qe, qf, qg, qh, qi, qj, qk, ql, qm⟩ := x
      obtain ⟨vqb, vqc, vqd, vqe, vqf, vqg, vqh, vqi, vqj, rfl, _, hqb, hqc, hqd, hqe, hqf, hqg, hqh, hqi, hqj⟩ := hR
      obtain ⟨aqb, cqb, rfl, hmqb⟩ := hqb.form
      clear hmqb
      obtain ⟨aqc, cqc, rfl, hmqc⟩ := hqc.form
      clear hmqc
      obtain ⟨aqd, cqd, rfl, hmqd⟩ := hqd.form
      clear hmqd
      obtain ⟨aqe, cqe, rfl, hmqe⟩ := hqe.form
      clear hmqe
      obtain ⟨aqf, cqf, rfl, hmqf⟩ := hqf.form
      clear hmqf
      obtain ⟨aqg, cqg, rfl, hmqg⟩ := hqg.form
      clear hmqg
      obtain ⟨aqh, cqh, rfl, hmqh⟩ := hqh.form
      clear hmqh
      obtain ⟨aqi, cqi, rfl, hmqi⟩ := hqi.form
      clear hmqi
      obtain ⟨aqj, cqj, rfl, hmqj⟩ := hqj.form
      clear hmqj
      have d0 : wr.cell? ⟨b, off + k * 13, none⟩ = some (.string qa) := cell_later HB.out (hc 0 _ rfl)
      have d1 : wr.cell? ⟨b, off + k * 13 + 1, none⟩ = some (.slice aqb qb.length cqb) := cell_later HB.out (hc 1 _ rfl)
      have d2 : wr.cell? ⟨b, off + k * 13 + 2, none⟩ = some (.slice aqc qc.length cqc) := cell_later HB.out (hc 2 _ rfl)
      have d3 : wr.cell? ⟨b, off + k * 13 + 3, none⟩ = some (.slice aqd qd.length cqd) := cell_later HB.out (hc 3 _ rfl)
      have d4 : wr.cell? ⟨b, off + k * 13 + 4, none⟩ = some (.slice aqe qe.length cqe) := cell_later HB.out (hc 4 _ rfl)
      have d5 : wr.cell? ⟨b, off + k * 13 + 5, none⟩ = some (.slice aqf qf.length cqf) := cell_later HB.out (hc 5 _ rfl)
      have d6 : wr.cell? ⟨b, off + k * 13 + 6, none⟩ = some (.slice aqg qg.length cqg) := cell_later HB.out (hc 6 _ rfl)
      have d7 : wr.cell? ⟨b, off + k * 13 + 7, none⟩ = some (.slice aqh qh.length cqh) := cell_later HB.out (hc 7 _ rfl)
      have d8 : wr.cell? ⟨b, off + k * 13 + 8, none⟩ = some (.slice aqi qi.length cqi) := cell_later HB.out (hc 8 _ rfl)
      have d9 : wr.cell? ⟨b, off + k * 13 + 9, none⟩ = some (.slice aqj qj.length cqj) := cell_later HB.out (hc 9 _ rfl)
      have d10 : wr.cell? ⟨b, off + k * 13 + 10, none⟩ = some (.int .i64 qk) := cell_later HB.out (hc 10 _ rfl)
      have d11 : wr.cell? ⟨b, off + k * 13 + 11, none⟩ = some (.int .i64 ql) := cell_later HB.out (hc 11 _ rfl)
      have d12 : wr.cell? ⟨b, off + k * 13 + 12, none⟩ = some (.int .i64 qm) := cell_later HB.out (hc 12 _ rfl)
      have C := Lib.hid (namePartition_any qa qb qc qd qe qf qg qh qi qj qk ql qm aqb aqc aqd aqe aqf aqg aqh aqi aqj cqb cqc cqd cqe cqf cqg cqh cqi cqj (wr.alloc (.cells #[.string qa, .slice aqb qb.length cqb, .slice aqc qc.length cqc, .slice aqd qd.length cqd, .slice aqe qe.length cqe, .slice aqf qf.length cqf, .slice aqg qg.length cqg, .slice aqh qh.length cqh, .slice aqi qi.length cqi, .slice aqj qj.length cqj, .int .i64 qk, .int .i64 ql, .int .i64 qm] 52)))
      clear hc hlt hx hqb hqc hqd hqe hqf hqg hqh hqi hqj
      go_wp2_with fail
      refine C.out.mono ?_
      rintro e W1 ⟨rfl, b1⟩
      have HO1 : Hid (W1.ownsRow w.heap.size 9 1 (.slice A k c) k ls) := own_below (own_below HO.out ((Below.refl _ _).alloc (Nat.le_refl _) _)) b1
      have HB1 : Hid (Below w.heap.size w W1) := (HB.out.alloc HB.out.size _).trans (b1.mono (by have := HB.out.size; simp; omega))
      have HS1 := Lib.hid HB1.out.size
      clear b1 C d0 d1 d2 d3 d4 d5 d6 d7 d8 d9 d10 d11 d12
      go_wp2_with (at_builtin; refine wpList_append_own _ rfl _ _ 36 rfl w.heap.size 9 i0 (.string ⟨#[]⟩) 1 16 Try.underlying36 hi hz0 hz1 hz2 rfl (by decide) _ _ _ rfl (own_below HO1.out ((Below.refl _ _).alloc (Nat.le_refl _) _)) ⟨W1.heap.size, 0, none⟩ 1 1 [.string qa] rfl rfl ?c1 ?c2 ?c3 ?c4 ?c5 ?_)
      case c1 => intro j u hu; cases j with
        | zero => simp at hu; subst hu; rw [Addr.add_lit, World.cell?_alloc_new]; rfl
        | succ j => simp at hu
      case c2 => intro u hu; simp at hu; subst hu; rfl
      case c3 => have h1 := HX.out; have h2 := HM.out; unfold rowMax at h2; unfold maxLen; omega
      case c4 => have h1 := HX.out; have h2 := HM.out; unfold rowMax at h2; omega
      case c5 => have := HS1.out; simp; omega
      intro v' w2 hown hgrow _
      obtain ⟨A', c', rfl⟩ := own_form hown
      have HO2 : Hid (w2.ownsRow w.heap.size 9 1 (.slice A' (k + 1) c') (k + 1) (((xs.take (k + 1)).map (·.qa)).map Value.string)) := by
        have h1 := take_snoc_str (fun x : MPartition => x.qa) HXS.out
        unfold Hid; rw [h1, HLS.out]; exact hown
      have HB2 : Hid (Below w.heap.size w w2) := by
        have h1 : Below w.heap.size w (W1.alloc (.cells #[.string qa] 9)) := HB1.out.alloc HB1.out.size _
        exact h1.grown hgrow (by have := HS1.out; simp; omega) (fun k hk => (HO1.out.lt k hk).1)
      clear hown hgrow
      go_wp2_with fail
      go_roundw
      case rel =>
        have Q : NmsRel (fun x : MPartition => x.qa) n xs w (.slice A' (k + 1) c') (.int .i64 ((k : Int) + 1)) w2 := ⟨⟨k + 1, A', c', HX.out, rfl, by go_num, HO2.out, HB2.out⟩⟩
        first | exact Q | ((repeat apply Exists.intro); exact ⟨Q, rfl⟩)
      case measure => have := HX.out; simp [intOf]; omega
    · have hkI : ¬ (k : Int) < (n : Int) := by omega
      have HF : Hid (Row wr 1 RStr (.slice A k c) (xs.map (·.qa))) := by
        have h0 := HO.out
        rw [← HLS.out] at h0
        have := own_row h0 (by have := HK.out; have := HM.out; omega)
        rwa [List.take_of_length_le (by have := HN.out; omega)] at this
      go_wp2_with fail
      go_ret
      exact ⟨⟨_, rfl, HF.out⟩, HB.out⟩
theorem namePort_any (qa : ByteArray) (qb : Bool) (qc : Bool) (qd : Int) (qe : Int) (qf : Int) (w : World) : Calls Try.prog 81 #[.agg #[.string qa, .bool qb, .bool qc, .int .i64 qd, .int .i64 qe, .int .i64 qf]] w fun e w' => e = .returned (.string qa) ∧ Below w.heap.size w w' := by
  go_enter Try.func81, Try.ntmps81
  go_wp2_with fail
  go_ret
  exact ⟨rfl, (Below.refl _ _).alloc (Nat.le_refl _) _⟩
set_option maxRecDepth 100000 in
set_option maxHeartbeats 4000000 in
theorem namesPort_any (v : Value) (xs : List MPort) (w : World) (h : Row w 6 RPort v xs) :
    Calls Try.prog 80 #[v, .func (.func 81) #[] #[]] w fun e w' => (∃ r, e = .returned r ∧ Row w' 1 RStr r (xs.map (·.qa))) ∧ Below w.heap.size w w' := by
  obtain ⟨i0, hi, hz0, hz1, hz2⟩ := info_of str_info
  obtain ⟨a, cap, rfl, hm⟩ := h.form
  obtain ⟨n, hn⟩ : ∃ n, xs.length = n := ⟨_, rfl⟩
  rw [hn] at h hm ⊢
  have HN := Lib.hid hn
  have HM := Lib.hid hm
  have H := Lib.hid h
  unfold rowMax at hm
  clear hn h
  go_enter Try.func80, Try.ntmps80
  go_wp2_with fail
  go_loopw [5, 10] (fun v5 v wr => NmsRel (·.qa) n xs w v5 v wr) (fun _ v => fun _ => n - (intOf v).toNat)
  case atStart => exact ⟨⟨0, none, 0, Nat.zero_le _, rfl, rfl, World.ownsRow_nil _ _ _ _, Below.refl _ _⟩⟩
  case round =>
    obtain ⟨⟨k, A, c, hk, rfl, rfl, ho, hb⟩⟩ := hrel
    have HK := Lib.hid hk
    obtain ⟨ls, hls⟩ : ∃ ls, ((xs.take k).map (·.qa)).map Value.string = ls := ⟨_, rfl⟩
    rw [hls] at ho
    have HLS := Lib.hid hls
    have HO := Lib.hid ho
    have HB := Lib.hid hb
    clear hk ho hb hls
    by_cases hlt : k < n
    · have hkI : (k : Int) < (n : Int) := by omega
      have HX : Hid (k < n) := hlt
      obtain ⟨hnx, b, off, x, cs, rfl, hbl, hx, hR, _, hc⟩ := H.out.at_ k hlt
      clear hnx hbl
      have HXS := Lib.hid hx
      obtain ⟨qa, qb, qc, qd, qe, qf⟩ := x
      obtain ⟨rfl, _⟩ := hR
      have d0 : wr.cell? ⟨b, off + k * 6, none⟩ = some (.string qa) := cell_later HB.out (hc 0 _ rfl)
      have d1 : wr.cell? ⟨b, off + k * 6 + 1, none⟩ = some (.bool qb) := cell_later HB.out (hc 1 _ rfl)
      have d2 : wr.cell? ⟨b, off + k * 6 + 2, none⟩ = some (.bool qc) := cell_later HB.out (hc 2 _ rfl)
      have d3 : wr.cell? ⟨b, off + k * 6 + 3, none⟩ = some (.int .i64 qd) := cell_later HB.out (hc 3 _ rfl)
      have d4 : wr.cell? ⟨b, off + k * 6 + 4, none⟩ = some (.int .i64 qe) := cell_later HB.out (hc 4 _ rfl)
      have d5 : wr.cell? ⟨b, off + k * 6 + 5, none⟩ = some (.int .i64 qf) := cell_later HB.out (hc 5 _ rfl)
      have C := Lib.hid (namePort_any qa qb qc qd qe qf   (wr.alloc (.cells #[.string qa, .bool qb, .bool qc, .int .i64 qd, .int .i64 qe, .int .i64 qf] 57)))
      clear hc hlt hx 
      go_wp2_with fail
      refine C.out.mono ?_
      rintro e W1 ⟨rfl, b1⟩
      have HO1 : Hid (W1.ownsRow w.heap.size 9 1 (.slice A k c) k ls) := own_below (own_below HO.out ((Below.refl _ _).alloc (Nat.le_refl _) _)) b1
      have HB1 : Hid (Below w.heap.size w W1) := (HB.out.alloc HB.out.size _).trans (b1.mono (by have := HB.out.size; simp; omega))
      have HS1 := Lib.hid HB1.out.size
      clear b1 C d0 d1 d2 d3 d4 d5
      go_wp2_with (at_builtin; refine wpList_append_own _ rfl _ _ 36 rfl w.heap.size 9 i0 (.string ⟨#[]⟩) 1 16 Try.underlying36 hi hz0 hz1 hz2 rfl (by decide) _ _ _ rfl (own_below HO1.out ((Below.refl _ _).alloc (Nat.le_refl _) _)) ⟨W1.heap.size, 0, none⟩ 1 1 [.string qa] rfl rfl ?c1 ?c2 ?c3 ?c4 ?c5 ?_)
      case c1 => intro j u hu; cases j with
        | zero => simp at hu; subst hu; rw [Addr.add_lit, World.cell?_alloc_new]; rfl
        | succ j => simp at hu
      case c2 => intro u hu; simp at hu; subst hu; rfl
      case c3 => have h1 := HX.out; have h2 := HM.out; unfold rowMax at h2; unfold maxLen; omega
      case c4 => have h1 := HX.out; have h2 := HM.out; unfold rowMax at h2; omega
      case c5 => have := HS1.out; simp; omega
      intro v' w2 hown hgrow _
      obtain ⟨A', c', rfl⟩ := own_form hown
      have HO2 : Hid (w2.ownsRow w.heap.size 9 1 (.slice A' (k + 1) c') (k + 1) (((xs.take (k + 1)).map (·.qa)).map Value.string)) := by
        have h1 := take_snoc_str (fun x : MPort => x.qa) HXS.out
        unfold Hid; rw [h1, HLS.out]; exact hown
      have HB2 : Hid (Below w.heap.size w w2) := by
        have h1 : Below w.heap.size w (W1.alloc (.cells #[.string qa] 9)) := HB1.out.alloc HB1.out.size _
        exact h1.grown hgrow (by have := HS1.out; simp; omega) (fun k hk => (HO1.out.lt k hk).1)
      clear hown hgrow
      go_wp2_with fail
      go_roundw
      case rel =>
        have Q : NmsRel (fun x : MPort => x.qa) n xs w (.slice A' (k + 1) c') (.int .i64 ((k : Int) + 1)) w2 := ⟨⟨k + 1, A', c', HX.out, rfl, by go_num, HO2.out, HB2.out⟩⟩
        first | exact Q | ((repeat apply Exists.intro); exact ⟨Q, rfl⟩)
      case measure => have := HX.out; simp [intOf]; omega
    · have hkI : ¬ (k : Int) < (n : Int) := by omega
      have HF : Hid (Row wr 1 RStr (.slice A k c) (xs.map (·.qa))) := by
        have h0 := HO.out
        rw [← HLS.out] at h0
        have := own_row h0 (by have := HK.out; have := HM.out; omega)
        rwa [List.take_of_length_le (by have := HN.out; omega)] at this
      go_wp2_with fail
      go_ret
      exact ⟨⟨_, rfl, HF.out⟩, HB.out⟩
end Go.Proofs.Ytchlgihanogeeaa
