/-
  How many things there are. Each statement bears its own conditions.
-/
import Derived.Test.YtchlgihanogeeaaAllB
namespace Go.Proofs.Ytchlgihanogeeaa
open Go.RowKit
set_option linter.unusedVariables false
set_option linter.unusedSimpArgs false
theorem take_snoc_map {α : Type} (f : α → Nat) {xs : List α} {k : Nat} {x : α} (h : xs[k]? = some x) : ((xs.take (k + 1)).map f).sum = ((xs.take k).map f).sum + f x := by
  rw [List.take_add_one, h]; simp
def szPartition (x : MPartition) : Nat := x.qb.length + x.qc.length + x.qd.length + x.qe.length + x.qf.length + x.qg.length + x.qh.length + x.qi.length + x.qj.length
set_option maxHeartbeats 4000000 in
theorem szPartition_core (qa : ByteArray) (qb : List MArea) (qc : List MTask) (qd : List MLock) (qe : List MSema) (qf : List MEvent) (qg : List MBoard) (qh : List MBuffer) (qi : List MPort) (qj : List MRule) (qk : Int) (ql : Int) (qm : Int) (vqb vqc vqd vqe vqf vqg vqh vqi vqj : Value) (w : World) (hqb : Row w 6 RArea vqb qb) (hqc : Row w 8 RTask vqc qc) (hqd : Row w 2 RLock vqd qd) (hqe : Row w 4 RSema vqe qe) (hqf : Row w 1 REvent vqf qf) (hqg : Row w 2 RBoard vqg qg) (hqh : Row w 4 RBuffer vqh qh) (hqi : Row w 6 RPort vqi qi) (hqj : Row w 3 RRule vqj qj) :
    Calls Try.prog 54 #[.agg #[.string qa, vqb, vqc, vqd, vqe, vqf, vqg, vqh, vqi, vqj, .int .i64 qk, .int .i64 ql, .int .i64 qm]] w fun e w' => e = .returned (.int .i64 (szPartition ⟨qa, qb, qc, qd, qe, qf, qg, qh, qi, qj, qk, ql, qm⟩ : Nat)) ∧ Below w.heap.size w w' := by
  obtain ⟨aqb, cqb, rfl, hmqb⟩ := hqb.form
  obtain ⟨nqb, hnqb⟩ : ∃ n, qb.length = n := ⟨_, rfl⟩
  rw [hnqb] at hqb hmqb ⊢
  have HNqb := Lib.hid hnqb
  unfold rowMax at hmqb
  clear hnqb
  obtain ⟨aqc, cqc, rfl, hmqc⟩ := hqc.form
  obtain ⟨nqc, hnqc⟩ : ∃ n, qc.length = n := ⟨_, rfl⟩
  rw [hnqc] at hqc hmqc ⊢
  have HNqc := Lib.hid hnqc
  unfold rowMax at hmqc
  clear hnqc
  obtain ⟨aqd, cqd, rfl, hmqd⟩ := hqd.form
  obtain ⟨nqd, hnqd⟩ : ∃ n, qd.length = n := ⟨_, rfl⟩
  rw [hnqd] at hqd hmqd ⊢
  have HNqd := Lib.hid hnqd
  unfold rowMax at hmqd
  clear hnqd
  obtain ⟨aqe, cqe, rfl, hmqe⟩ := hqe.form
  obtain ⟨nqe, hnqe⟩ : ∃ n, qe.length = n := ⟨_, rfl⟩
  rw [hnqe] at hqe hmqe ⊢
  have HNqe := Lib.hid hnqe
  unfold rowMax at hmqe
  clear hnqe
  obtain ⟨aqf, cqf, rfl, hmqf⟩ := hqf.form
  obtain ⟨nqf, hnqf⟩ : ∃ n, qf.length = n := ⟨_, rfl⟩
  rw [hnqf] at hqf hmqf ⊢
  have HNqf := Lib.hid hnqf
  unfold rowMax at hmqf
  clear hnqf
  obtain ⟨aqg, cqg, rfl, hmqg⟩ := hqg.form
  obtain ⟨nqg, hnqg⟩ : ∃ n, qg.length = n := ⟨_, rfl⟩
  rw [hnqg] at hqg hmqg ⊢
  have HNqg := Lib.hid hnqg
  unfold rowMax at hmqg
  clear hnqg
  obtain ⟨aqh, cqh, rfl, hmqh⟩ := hqh.form
  obtain ⟨nqh, hnqh⟩ : ∃ n, qh.length = n := ⟨_, rfl⟩
  rw [hnqh] at hqh hmqh ⊢
  have HNqh := Lib.hid hnqh
  unfold rowMax at hmqh
  clear hnqh
  obtain ⟨aqi, cqi, rfl, hmqi⟩ := hqi.form
  obtain ⟨nqi, hnqi⟩ : ∃ n, qi.length = n := ⟨_, rfl⟩
  rw [hnqi] at hqi hmqi ⊢
  have HNqi := Lib.hid hnqi
  unfold rowMax at hmqi
  clear hnqi
  obtain ⟨aqj, cqj, rfl, hmqj⟩ := hqj.form
  obtain ⟨nqj, hnqj⟩ : ∃ n, qj.length = n := ⟨_, rfl⟩
  rw [hnqj] at hqj hmqj ⊢
  have HNqj := Lib.hid hnqj
  unfold rowMax at hmqj
  clear hnqj
  have HR : Hid (((szPartition ⟨qa, qb, qc, qd, qe, qf, qg, qh, qi, qj, qk, ql, qm⟩ : Nat) : Int) = (nqb : Int) + (nqc : Int) + (nqd : Int) + (nqe : Int) + (nqf : Int) + (nqg : Int) + (nqh : Int) + (nqi : Int) + (nqj : Int)) := by unfold Hid szPartition; dsimp only; rw [HNqb.out, HNqc.out, HNqd.out, HNqe.out, HNqf.out, HNqg.out, HNqh.out, HNqi.out, HNqj.out]; omega
  clear hqb hqc hqd hqe hqf hqg hqh hqi hqj
  go_enter Try.func54, Try.ntmps54
  go_wp2_with fail
  go_ret
  exact ⟨by rw [HR.out]; rfl, (Below.refl _ _).alloc (Nat.le_refl _) _⟩
theorem szPartition_le {w : World} {x : MPartition} {cs : List Value} (h : RPartition w x cs) : szPartition x ≤ 9 * rowMax := by
  obtain ⟨vqb, vqc, vqd, vqe, vqf, vqg, vqh, vqi, vqj, _, _, hqb, hqc, hqd, hqe, hqf, hqg, hqh, hqi, hqj⟩ := h
  obtain ⟨_, _, _, gqb⟩ := hqb.form
  obtain ⟨_, _, _, gqc⟩ := hqc.form
  obtain ⟨_, _, _, gqd⟩ := hqd.form
  obtain ⟨_, _, _, gqe⟩ := hqe.form
  obtain ⟨_, _, _, gqf⟩ := hqf.form
  obtain ⟨_, _, _, gqg⟩ := hqg.form
  obtain ⟨_, _, _, gqh⟩ := hqh.form
  obtain ⟨_, _, _, gqi⟩ := hqi.form
  obtain ⟨_, _, _, gqj⟩ := hqj.form
  unfold szPartition; omega
structure TotPartitionRel (n : Nat) (xs : List MPartition) (w : World) (v5 v : Value) (wr : World) : Prop where
  ex : ∃ k s : Nat, k ≤ n ∧ v5 = .int .i64 (s : Int) ∧ v = .int .i64 (k : Int) ∧ s = n + ((xs.take k).map szPartition).sum ∧ s ≤ 100 + k * (9 * rowMax) ∧ Below w.heap.size w wr
set_option maxRecDepth 100000 in
set_option maxHeartbeats 4000000 in
theorem totalPartition_any (v : Value) (xs : List MPartition) (w : World) (h : Row w 13 (RPartition w) v xs) (hle : xs.length ≤ 100) :
    Calls Try.prog 53 #[v, .func (.func 54) #[] #[]] w fun e w' => e = .returned (.int .i64 ((xs.length + (xs.map szPartition).sum : Nat) : Int)) ∧ Below w.heap.size w w' := by
  obtain ⟨a, cap, rfl, hm⟩ := h.form
  obtain ⟨n, hn⟩ : ∃ n, xs.length = n := ⟨_, rfl⟩
  rw [hn] at h hle ⊢
  have HN := Lib.hid hn
  have H := Lib.hid h
  have HLE := Lib.hid hle
  clear hn h hm
  obtain ⟨r, hr⟩ : ∃ r : Nat, n + (xs.map szPartition).sum = r := ⟨_, rfl⟩
  rw [hr]
  have HR := Lib.hid hr
  clear hr
  go_enter Try.func53, Try.ntmps53
  go_wp2_with fail
  go_loopw [5, 12] (fun v5 v wr => TotPartitionRel n xs w v5 v wr) (fun _ v => fun _ => n - (intOf v).toNat)
  case atStart => exact ⟨⟨0, n, Nat.zero_le _, rfl, rfl, by simp, by have := HLE.out; omega, Below.refl _ _⟩⟩
  case round =>
    obtain ⟨⟨k, s, hk, rfl, rfl, hs, hsl, hb⟩⟩ := hrel
    have HK := Lib.hid hk
    have HS := Lib.hid hs
    have HSL := Lib.hid hsl
    have HB := Lib.hid hb
    have hs9 : (s : Int) ≤ 9000000000000000 := by have := HLE.out; have := HK.out; have : k * (9 * rowMax) ≤ 100 * (9 * rowMax) := Nat.mul_le_mul_right _ (by omega); unfold rowMax at this hsl; omega
    clear hk hs hb hsl
    by_cases hlt : k < n
    · have hkI : (k : Int) < (n : Int) := by omega
      have hk9 : (k : Int) ≤ 100 := by have := HLE.out; omega
      have HX : Hid (k < n) := hlt
      obtain ⟨hnx, b, off, x, cs, rfl, hbl, hx, hR, _, hc⟩ := H.out.at_ k hlt
      clear hnx hbl
      have HXS := Lib.hid hx
      replace hR : RPartition wr x cs := hR.below HB.out
      have hq := szPartition_le hR
      obtain ⟨qa, qb, qc, qd, qe, qf, qg, qh, qi, qj, qk, ql, qm⟩ := x
      obtain ⟨vqb, vqc, vqd, vqe, vqf, vqg, vqh, vqi, vqj, rfl, _, hqb, hqc, hqd, hqe, hqf, hqg, hqh, hqi, hqj⟩ := hR
      obtain ⟨aqb, cqb, rfl, hmqb⟩ := hqb.form
      clear hmqb
      obtain ⟨aqc, cqc, rfl, hmqc⟩ := hqc.form
      clear hmqc
      obtain ⟨aqd, cqd, rfl, hmqd⟩ := hqd.form
      clear hmqd
      obtain ⟨aqe, cqe, rfl, hmqe⟩ := hqe.form
      clear hmqe
      obtain ⟨aqf, cqf, rfl, hmqf⟩ := hqf.form
      clear hmqf
      obtain ⟨aqg, cqg, rfl, hmqg⟩ := hqg.form
      clear hmqg
      obtain ⟨aqh, cqh, rfl, hmqh⟩ := hqh.form
      clear hmqh
      obtain ⟨aqi, cqi, rfl, hmqi⟩ := hqi.form
      clear hmqi
      obtain ⟨aqj, cqj, rfl, hmqj⟩ := hqj.form
      clear hmqj
      have d0 : wr.cell? ⟨b, off + k * 13, none⟩ = some (.string qa) := cell_later HB.out (hc 0 _ rfl)
      have d1 : wr.cell? ⟨b, off + k * 13 + 1, none⟩ = some (.slice aqb qb.length cqb) := cell_later HB.out (hc 1 _ rfl)
      have d2 : wr.cell? ⟨b, off + k * 13 + 2, none⟩ = some (.slice aqc qc.length cqc) := cell_later HB.out (hc 2 _ rfl)
      have d3 : wr.cell? ⟨b, off + k * 13 + 3, none⟩ = some (.slice aqd qd.length cqd) := cell_later HB.out (hc 3 _ rfl)
      have d4 : wr.cell? ⟨b, off + k * 13 + 4, none⟩ = some (.slice aqe qe.length cqe) := cell_later HB.out (hc 4 _ rfl)
      have d5 : wr.cell? ⟨b, off + k * 13 + 5, none⟩ = some (.slice aqf qf.length cqf) := cell_later HB.out (hc 5 _ rfl)
      have d6 : wr.cell? ⟨b, off + k * 13 + 6, none⟩ = some (.slice aqg qg.length cqg) := cell_later HB.out (hc 6 _ rfl)
      have d7 : wr.cell? ⟨b, off + k * 13 + 7, none⟩ = some (.slice aqh qh.length cqh) := cell_later HB.out (hc 7 _ rfl)
      have d8 : wr.cell? ⟨b, off + k * 13 + 8, none⟩ = some (.slice aqi qi.length cqi) := cell_later HB.out (hc 8 _ rfl)
      have d9 : wr.cell? ⟨b, off + k * 13 + 9, none⟩ = some (.slice aqj qj.length cqj) := cell_later HB.out (hc 9 _ rfl)
      have d10 : wr.cell? ⟨b, off + k * 13 + 10, none⟩ = some (.int .i64 qk) := cell_later HB.out (hc 10 _ rfl)
      have d11 : wr.cell? ⟨b, off + k * 13 + 11, none⟩ = some (.int .i64 ql) := cell_later HB.out (hc 11 _ rfl)
      have d12 : wr.cell? ⟨b, off + k * 13 + 12, none⟩ = some (.int .i64 qm) := cell_later HB.out (hc 12 _ rfl)
      obtain ⟨q, hszq⟩ : ∃ q, szPartition ⟨qa, qb, qc, qd, qe, qf, qg, qh, qi, qj, qk, ql, qm⟩ = q := ⟨_, rfl⟩
      rw [hszq] at hq
      have HQ := Lib.hid hszq
      have HQL := Lib.hid hq
      have hq9 : (q : Int) ≤ 80000000000000 := by unfold rowMax at hq; omega
      have C : Hid (Calls Try.prog 54 #[.agg #[.string qa, .slice aqb qb.length cqb, .slice aqc qc.length cqc, .slice aqd qd.length cqd, .slice aqe qe.length cqe, .slice aqf qf.length cqf, .slice aqg qg.length cqg, .slice aqh qh.length cqh, .slice aqi qi.length cqi, .slice aqj qj.length cqj, .int .i64 qk, .int .i64 ql, .int .i64 qm]] (wr.alloc (.cells #[.string qa, .slice aqb qb.length cqb, .slice aqc qc.length cqc, .slice aqd qd.length cqd, .slice aqe qe.length cqe, .slice aqf qf.length cqf, .slice aqg qg.length cqg, .slice aqh qh.length cqh, .slice aqi qi.length cqi, .slice aqj qj.length cqj, .int .i64 qk, .int .i64 ql, .int .i64 qm] 52)) fun e w' => e = .returned (.int .i64 (q : Int)) ∧ Below (wr.alloc (.cells #[.string qa, .slice aqb qb.length cqb, .slice aqc qc.length cqc, .slice aqd qd.length cqd, .slice aqe qe.length cqe, .slice aqf qf.length cqf, .slice aqg qg.length cqg, .slice aqh qh.length cqh, .slice aqi qi.length cqi, .slice aqj qj.length cqj, .int .i64 qk, .int .i64 ql, .int .i64 qm] 52)).heap.size (wr.alloc (.cells #[.string qa, .slice aqb qb.length cqb, .slice aqc qc.length cqc, .slice aqd qd.length cqd, .slice aqe qe.length cqe, .slice aqf qf.length cqf, .slice aqg qg.length cqg, .slice aqh qh.length cqh, .slice aqi qi.length cqi, .slice aqj qj.length cqj, .int .i64 qk, .int .i64 ql, .int .i64 qm] 52)) w') := by
        unfold Hid
        rw [← hszq]; exact szPartition_core qa qb qc qd qe qf qg qh qi qj qk ql qm (.slice aqb qb.length cqb) (.slice aqc qc.length cqc) (.slice aqd qd.length cqd) (.slice aqe qe.length cqe) (.slice aqf qf.length cqf) (.slice aqg qg.length cqg) (.slice aqh qh.length cqh) (.slice aqi qi.length cqi) (.slice aqj qj.length cqj) _ (hqb.alloc _) (hqc.alloc _) (hqd.alloc _) (hqe.alloc _) (hqf.alloc _) (hqg.alloc _) (hqh.alloc _) (hqi.alloc _) (hqj.alloc _)
      clear hc hszq hlt hx hq hqb hqc hqd hqe hqf hqg hqh hqi hqj
      go_wp2_with fail
      refine C.out.mono ?_
      rintro e W1 ⟨rfl, b1⟩
      have HB1 : Hid (Below w.heap.size w W1) := (HB.out.alloc HB.out.size _).trans (b1.mono (by have := HB.out.size; simp; omega))
      clear b1 C
      go_wp2_with fail
      go_roundw
      case rel =>
        have Q : TotPartitionRel n xs w (.int .i64 ((s : Int) + (q : Int))) (.int .i64 ((k : Int) + 1)) W1 := ⟨⟨k + 1, s + q, HX.out, by first | rfl | go_num, by first | rfl | go_num, by
          have := take_snoc_map szPartition HXS.out
          rw [this, HQ.out, HS.out]; omega, by have := HSL.out; have := HQL.out; rw [Nat.add_mul]; omega, HB1.out⟩⟩
        first | exact Q | ((repeat apply Exists.intro); exact ⟨Q, rfl⟩)
      case measure => have := HX.out; simp [intOf]; omega
    · have hkI : ¬ (k : Int) < (n : Int) := by omega
      have HF : Hid (s = r) := by
        unfold Hid
        rw [← HR.out, HS.out, List.take_of_length_le (by have := HN.out; omega)]
      clear hlt
      go_wp2_with fail
      go_ret
      exact ⟨by rw [HF.out]; rfl, HB.out⟩
def szSchedule (x : MSchedule) : Nat := x.qc.length
set_option maxHeartbeats 4000000 in
theorem szSchedule_core (qa : ByteArray) (qb : Int) (qc : List MWindow) (vqc : Value) (w : World) (hqc : Row w 3 RWindow vqc qc) :
    Calls Try.prog 56 #[.agg #[.string qa, .int .i64 qb, vqc]] w fun e w' => e = .returned (.int .i64 (szSchedule ⟨qa, qb, qc⟩ : Nat)) ∧ Below w.heap.size w w' := by
  obtain ⟨aqc, cqc, rfl, hmqc⟩ := hqc.form
  obtain ⟨nqc, hnqc⟩ : ∃ n, qc.length = n := ⟨_, rfl⟩
  rw [hnqc] at hqc hmqc ⊢
  have HNqc := Lib.hid hnqc
  unfold rowMax at hmqc
  clear hnqc
  have HR : Hid (((szSchedule ⟨qa, qb, qc⟩ : Nat) : Int) = (nqc : Int)) := by unfold Hid szSchedule; dsimp only; rw [HNqc.out]
  clear hqc
  go_enter Try.func56, Try.ntmps56
  go_wp2_with fail
  go_ret
  exact ⟨by rw [HR.out]; rfl, (Below.refl _ _).alloc (Nat.le_refl _) _⟩
theorem szSchedule_le {w : World} {x : MSchedule} {cs : List Value} (h : RSchedule w x cs) : szSchedule x ≤ 9 * rowMax := by
  obtain ⟨vqc, _, _, hqc⟩ := h
  obtain ⟨_, _, _, gqc⟩ := hqc.form
  unfold szSchedule; omega
structure TotScheduleRel (n : Nat) (xs : List MSchedule) (w : World) (v5 v : Value) (wr : World) : Prop where
  ex : ∃ k s : Nat, k ≤ n ∧ v5 = .int .i64 (s : Int) ∧ v = .int .i64 (k : Int) ∧ s = n + ((xs.take k).map szSchedule).sum ∧ s ≤ 100 + k * (9 * rowMax) ∧ Below w.heap.size w wr
set_option maxRecDepth 100000 in
set_option maxHeartbeats 4000000 in
theorem totalSchedule_any (v : Value) (xs : List MSchedule) (w : World) (h : Row w 3 (RSchedule w) v xs) (hle : xs.length ≤ 100) :
    Calls Try.prog 55 #[v, .func (.func 56) #[] #[]] w fun e w' => e = .returned (.int .i64 ((xs.length + (xs.map szSchedule).sum : Nat) : Int)) ∧ Below w.heap.size w w' := by
  obtain ⟨a, cap, rfl, hm⟩ := h.form
  obtain ⟨n, hn⟩ : ∃ n, xs.length = n := ⟨_, rfl⟩
  rw [hn] at h hle ⊢
  have HN := Lib.hid hn
  have H := Lib.hid h
  have HLE := Lib.hid hle
  clear hn h hm
  obtain ⟨r, hr⟩ : ∃ r : Nat, n + (xs.map szSchedule).sum = r := ⟨_, rfl⟩
  rw [hr]
  have HR := Lib.hid hr
  clear hr
  go_enter Try.func55, Try.ntmps55
  go_wp2_with fail
  go_loopw [5, 12] (fun v5 v wr => TotScheduleRel n xs w v5 v wr) (fun _ v => fun _ => n - (intOf v).toNat)
  case atStart => exact ⟨⟨0, n, Nat.zero_le _, rfl, rfl, by simp, by have := HLE.out; omega, Below.refl _ _⟩⟩
  case round =>
    obtain ⟨⟨k, s, hk, rfl, rfl, hs, hsl, hb⟩⟩ := hrel
    have HK := Lib.hid hk
    have HS := Lib.hid hs
    have HSL := Lib.hid hsl
    have HB := Lib.hid hb
    have hs9 : (s : Int) ≤ 9000000000000000 := by have := HLE.out; have := HK.out; have : k * (9 * rowMax) ≤ 100 * (9 * rowMax) := Nat.mul_le_mul_right _ (by omega); unfold rowMax at this hsl; omega
    clear hk hs hb hsl
    by_cases hlt : k < n
    · have hkI : (k : Int) < (n : Int) := by omega
      have hk9 : (k : Int) ≤ 100 := by have := HLE.out; omega
      have HX : Hid (k < n) := hlt
      obtain ⟨hnx, b, off, x, cs, rfl, hbl, hx, hR, _, hc⟩ := H.out.at_ k hlt
      clear hnx hbl
      have HXS := Lib.hid hx
      replace hR : RSchedule wr x cs := hR.below HB.out
      have hq := szSchedule_le hR
      obtain ⟨qa, qb, qc⟩ := x
      obtain ⟨vqc, rfl, _, hqc⟩ := hR
      obtain ⟨aqc, cqc, rfl, hmqc⟩ := hqc.form
      clear hmqc
      have d0 : wr.cell? ⟨b, off + k * 3, none⟩ = some (.string qa) := cell_later HB.out (hc 0 _ rfl)
      have d1 : wr.cell? ⟨b, off + k * 3 + 1, none⟩ = some (.int .i64 qb) := cell_later HB.out (hc 1 _ rfl)
      have d2 : wr.cell? ⟨b, off + k * 3 + 2, none⟩ = some (.slice aqc qc.length cqc) := cell_later HB.out (hc 2 _ rfl)
      obtain ⟨q, hszq⟩ : ∃ q, szSchedule ⟨qa, qb, qc⟩ = q := ⟨_, rfl⟩
      rw [hszq] at hq
      have HQ := Lib.hid hszq
      have HQL := Lib.hid hq
      have hq9 : (q : Int) ≤ 80000000000000 := by unfold rowMax at hq; omega
      have C : Hid (Calls Try.prog 56 #[.agg #[.string qa, .int .i64 qb, .slice aqc qc.length cqc]] (wr.alloc (.cells #[.string qa, .int .i64 qb, .slice aqc qc.length cqc] 65)) fun e w' => e = .returned (.int .i64 (q : Int)) ∧ Below (wr.alloc (.cells #[.string qa, .int .i64 qb, .slice aqc qc.length cqc] 65)).heap.size (wr.alloc (.cells #[.string qa, .int .i64 qb, .slice aqc qc.length cqc] 65)) w') := by
        unfold Hid
        rw [← hszq]; exact szSchedule_core qa qb qc (.slice aqc qc.length cqc) _ (hqc.alloc _)
      clear hc hszq hlt hx hq hqc
      go_wp2_with fail
      refine C.out.mono ?_
      rintro e W1 ⟨rfl, b1⟩
      have HB1 : Hid (Below w.heap.size w W1) := (HB.out.alloc HB.out.size _).trans (b1.mono (by have := HB.out.size; simp; omega))
      clear b1 C
      go_wp2_with fail
      go_roundw
      case rel =>
        have Q : TotScheduleRel n xs w (.int .i64 ((s : Int) + (q : Int))) (.int .i64 ((k : Int) + 1)) W1 := ⟨⟨k + 1, s + q, HX.out, by first | rfl | go_num, by first | rfl | go_num, by
          have := take_snoc_map szSchedule HXS.out
          rw [this, HQ.out, HS.out]; omega, by have := HSL.out; have := HQL.out; rw [Nat.add_mul]; omega, HB1.out⟩⟩
        first | exact Q | ((repeat apply Exists.intro); exact ⟨Q, rfl⟩)
      case measure => have := HX.out; simp [intOf]; omega
    · have hkI : ¬ (k : Int) < (n : Int) := by omega
      have HF : Hid (s = r) := by
        unfold Hid
        rw [← HR.out, HS.out, List.take_of_length_le (by have := HN.out; omega)]
      clear hlt
      go_wp2_with fail
      go_ret
      exact ⟨by rw [HF.out]; rfl, HB.out⟩
def szChannel (x : MChannel) : Nat := x.qc.length
set_option maxHeartbeats 4000000 in
theorem szChannel_core (qa : Int) (qb : Int) (qc : List MEnd) (vqc : Value) (w : World) (hqc : Row w 2 REnd vqc qc) :
    Calls Try.prog 58 #[.agg #[.int .i64 qa, .int .i64 qb, vqc]] w fun e w' => e = .returned (.int .i64 (szChannel ⟨qa, qb, qc⟩ : Nat)) ∧ Below w.heap.size w w' := by
  obtain ⟨aqc, cqc, rfl, hmqc⟩ := hqc.form
  obtain ⟨nqc, hnqc⟩ : ∃ n, qc.length = n := ⟨_, rfl⟩
  rw [hnqc] at hqc hmqc ⊢
  have HNqc := Lib.hid hnqc
  unfold rowMax at hmqc
  clear hnqc
  have HR : Hid (((szChannel ⟨qa, qb, qc⟩ : Nat) : Int) = (nqc : Int)) := by unfold Hid szChannel; dsimp only; rw [HNqc.out]
  clear hqc
  go_enter Try.func58, Try.ntmps58
  go_wp2_with fail
  go_ret
  exact ⟨by rw [HR.out]; rfl, (Below.refl _ _).alloc (Nat.le_refl _) _⟩
theorem szChannel_le {w : World} {x : MChannel} {cs : List Value} (h : RChannel w x cs) : szChannel x ≤ 9 * rowMax := by
  obtain ⟨vqc, _, hqc⟩ := h
  obtain ⟨_, _, _, gqc⟩ := hqc.form
  unfold szChannel; omega
structure TotChannelRel (n : Nat) (xs : List MChannel) (w : World) (v5 v : Value) (wr : World) : Prop where
  ex : ∃ k s : Nat, k ≤ n ∧ v5 = .int .i64 (s : Int) ∧ v = .int .i64 (k : Int) ∧ s = n + ((xs.take k).map szChannel).sum ∧ s ≤ 100 + k * (9 * rowMax) ∧ Below w.heap.size w wr
set_option maxRecDepth 100000 in
set_option maxHeartbeats 4000000 in
theorem totalChannel_any (v : Value) (xs : List MChannel) (w : World) (h : Row w 3 (RChannel w) v xs) (hle : xs.length ≤ 100) :
    Calls Try.prog 57 #[v, .func (.func 58) #[] #[]] w fun e w' => e = .returned (.int .i64 ((xs.length + (xs.map szChannel).sum : Nat) : Int)) ∧ Below w.heap.size w w' := by
  obtain ⟨a, cap, rfl, hm⟩ := h.form
  obtain ⟨n, hn⟩ : ∃ n, xs.length = n := ⟨_, rfl⟩
  rw [hn] at h hle ⊢
  have HN := Lib.hid hn
  have H := Lib.hid h
  have HLE := Lib.hid hle
  clear hn h hm
  obtain ⟨r, hr⟩ : ∃ r : Nat, n + (xs.map szChannel).sum = r := ⟨_, rfl⟩
  rw [hr]
  have HR := Lib.hid hr
  clear hr
  go_enter Try.func57, Try.ntmps57
  go_wp2_with fail
  go_loopw [5, 12] (fun v5 v wr => TotChannelRel n xs w v5 v wr) (fun _ v => fun _ => n - (intOf v).toNat)
  case atStart => exact ⟨⟨0, n, Nat.zero_le _, rfl, rfl, by simp, by have := HLE.out; omega, Below.refl _ _⟩⟩
  case round =>
    obtain ⟨⟨k, s, hk, rfl, rfl, hs, hsl, hb⟩⟩ := hrel
    have HK := Lib.hid hk
    have HS := Lib.hid hs
    have HSL := Lib.hid hsl
    have HB := Lib.hid hb
    have hs9 : (s : Int) ≤ 9000000000000000 := by have := HLE.out; have := HK.out; have : k * (9 * rowMax) ≤ 100 * (9 * rowMax) := Nat.mul_le_mul_right _ (by omega); unfold rowMax at this hsl; omega
    clear hk hs hb hsl
    by_cases hlt : k < n
    · have hkI : (k : Int) < (n : Int) := by omega
      have hk9 : (k : Int) ≤ 100 := by have := HLE.out; omega
      have HX : Hid (k < n) := hlt
      obtain ⟨hnx, b, off, x, cs, rfl, hbl, hx, hR, _, hc⟩ := H.out.at_ k hlt
      clear hnx hbl
      have HXS := Lib.hid hx
      replace hR : RChannel wr x cs := hR.below HB.out
      have hq := szChannel_le hR
      obtain ⟨qa, qb, qc⟩ := x
      obtain ⟨vqc, rfl, hqc⟩ := hR
      obtain ⟨aqc, cqc, rfl, hmqc⟩ := hqc.form
      clear hmqc
      have d0 : wr.cell? ⟨b, off + k * 3, none⟩ = some (.int .i64 qa) := cell_later HB.out (hc 0 _ rfl)
      have d1 : wr.cell? ⟨b, off + k * 3 + 1, none⟩ = some (.int .i64 qb) := cell_later HB.out (hc 1 _ rfl)
      have d2 : wr.cell? ⟨b, off + k * 3 + 2, none⟩ = some (.slice aqc qc.length cqc) := cell_later HB.out (hc 2 _ rfl)
      obtain ⟨q, hszq⟩ : ∃ q, szChannel ⟨qa, qb, qc⟩ = q := ⟨_, rfl⟩
      rw [hszq] at hq
      have HQ := Lib.hid hszq
      have HQL := Lib.hid hq
      have hq9 : (q : Int) ≤ 80000000000000 := by unfold rowMax at hq; omega
      have C : Hid (Calls Try.prog 58 #[.agg #[.int .i64 qa, .int .i64 qb, .slice aqc qc.length cqc]] (wr.alloc (.cells #[.int .i64 qa, .int .i64 qb, .slice aqc qc.length cqc] 72)) fun e w' => e = .returned (.int .i64 (q : Int)) ∧ Below (wr.alloc (.cells #[.int .i64 qa, .int .i64 qb, .slice aqc qc.length cqc] 72)).heap.size (wr.alloc (.cells #[.int .i64 qa, .int .i64 qb, .slice aqc qc.length cqc] 72)) w') := by
        unfold Hid
        rw [← hszq]; exact szChannel_core qa qb qc (.slice aqc qc.length cqc) _ (hqc.alloc _)
      clear hc hszq hlt hx hq hqc
      go_wp2_with fail
      refine C.out.mono ?_
      rintro e W1 ⟨rfl, b1⟩
      have HB1 : Hid (Below w.heap.size w W1) := (HB.out.alloc HB.out.size _).trans (b1.mono (by have := HB.out.size; simp; omega))
      clear b1 C
      go_wp2_with fail
      go_roundw
      case rel =>
        have Q : TotChannelRel n xs w (.int .i64 ((s : Int) + (q : Int))) (.int .i64 ((k : Int) + 1)) W1 := ⟨⟨k + 1, s + q, HX.out, by first | rfl | go_num, by first | rfl | go_num, by
          have := take_snoc_map szChannel HXS.out
          rw [this, HQ.out, HS.out]; omega, by have := HSL.out; have := HQL.out; rw [Nat.add_mul]; omega, HB1.out⟩⟩
        first | exact Q | ((repeat apply Exists.intro); exact ⟨Q, rfl⟩)
      case measure => have := HX.out; simp [intOf]; omega
    · have hkI : ¬ (k : Int) < (n : Int) := by omega
      have HF : Hid (s = r) := by
        unfold Hid
        rw [← HR.out, HS.out, List.take_of_length_le (by have := HN.out; omega)]
      clear hlt
      go_wp2_with fail
      go_ret
      exact ⟨by rw [HF.out]; rfl, HB.out⟩
end Go.Proofs.Ytchlgihanogeeaa
