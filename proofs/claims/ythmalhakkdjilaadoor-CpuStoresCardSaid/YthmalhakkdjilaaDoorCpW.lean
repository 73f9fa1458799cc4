/-
  Loops within loops: the law. Each statement bears its own conditions.
-/
import Derived.Test.YthmalhakkdjilaaDoorCpS
import Derived.Test.YthmalhakkdjilaaDoorCpV
namespace Go.Proofs.YthmalhakkdjilaaDoor
open Go.RowKit
set_option linter.unusedVariables false
set_option linter.unusedSimpArgs false
def IsRow (k : IntKind) (w : World) (a : Option Addr) (len cap : Nat) (zs : List Int) : Prop :=
  (a = none ∧ len = 0 ∧ cap = 0 ∧ zs = []) ∨
  ∃ x, a = some x ∧ len ≤ cap ∧ cap ≤ maxLen ∧ zs.length = cap ∧ (∀ i, i < zs.length → w.cell? (x.add i) = some (.int k (zs.getD i 0))) ∧ ∀ n ∈ zs, (Lit.int k n).wf = true
theorem row_at {k : IntKind} {w : World} {a : Option Addr} {len cap : Nat} {zs : List Int} (h : IsRow k w a len cap zs) (hn : 0 < len) : ∃ b off, a = some ⟨b, off, none⟩ ∧ ∀ i, i < len → w.cell? ⟨b, off + i, none⟩ = some (.int k (zs.getD i 0)) ∧ (Lit.int k (zs.getD i 0)).wf = true := by
  rcases h with ⟨rfl, rfl, rfl, rfl⟩ | ⟨⟨b, off, spot⟩, rfl, h1, h2, h3, h4, h5⟩
  · omega
  · have e0 := h4 0 (by omega)
    have hs : spot = none := by simpa [Addr.add] using World.cell?_spot e0
    subst hs
    refine ⟨b, off, rfl, fun i hi => ⟨?_, ?_⟩⟩
    · have := h4 i (by omega)
      rwa [Addr.add_lit] at this
    · refine h5 _ ?_
      rw [List.getD_eq_getElem?_getD, List.getElem?_eq_getElem (show i < zs.length by omega)]
      exact List.getElem_mem _
/-- Bytes in memory. -/
def BytesAt (w : World) (a : Option Addr) (len : Nat) (y : Nat → Nat) : Prop := (∀ i, y i < 256) ∧ (0 < len → ∃ b off, a = some ⟨b, off, none⟩ ∧ ∀ i, i < len → w.cell? ⟨b, off + i, none⟩ = some (.int .u8 (y i : Int)))
theorem bytes_at {w : World} {a : Option Addr} {len cap : Nat} {zs : List Int} (h : IsRow .u8 w a len cap zs) : ∃ y, BytesAt w a len y := by
  refine ⟨fun i => if (zs.getD i 0).toNat < 256 then (zs.getD i 0).toNat else 0, fun i => ?_, fun hn => ?_⟩
  · dsimp only; split <;> omega
  · obtain ⟨b, off, ha, hc⟩ := row_at h hn
    refine ⟨b, off, ha, fun i hi => ?_⟩
    obtain ⟨c1, c2⟩ := hc i hi
    obtain ⟨x, hx⟩ : ∃ x, zs.getD i 0 = x := ⟨_, rfl⟩
    rw [hx] at c1 c2
    have e1 : IntKind.u8.min = 0 := rfl
    have e2 : IntKind.u8.max = 255 := rfl
    simp [Lit.wf] at c2
    dsimp only
    rw [c1, hx, if_pos (by omega)]
    congr 2; omega
def kOf (y : Nat → Nat) (n : Nat) : List Int := (List.range n).map fun i => 1 + (y i % 5 : Nat)
theorem kOf_len (y : Nat → Nat) (n : Nat) : (kOf y n).length = n := by simp [kOf]
theorem kOf_mem {y : Nat → Nat} {n : Nat} {k : Int} (h : k ∈ kOf y n) : 1 ≤ k ∧ k ≤ 5 := by
  simp [kOf] at h
  obtain ⟨i, _, rfl⟩ := h
  omega
theorem kOf_drop {y : Nat → Nat} {n k : Nat} (h : k < n) : (kOf y n).drop k = (1 + ((y k % 5 : Nat) : Int)) :: (kOf y n).drop (k + 1) := by
  rw [List.drop_eq_getElem_cons (by rw [kOf_len]; exact h)]
  simp [kOf]
theorem prodK_le : ∀ {ks : List Int}, (∀ k ∈ ks, 1 ≤ k ∧ k ≤ 5) → 1 ≤ prodK ks ∧ prodK ks ≤ 5 ^ ks.length ∧ stepsK ks ≤ 6 ^ ks.length
  | [], _ => by simp [prodK, stepsK]
  | k :: ks, h => by
    obtain ⟨h1, h2, h3⟩ := prodK_le (ks := ks) (fun k hk => h k (by simp [hk]))
    have hk := h k (by simp)
    obtain ⟨m, hm⟩ : ∃ m : Nat, k.toNat = m := ⟨_, rfl⟩
    have h5 : 1 ≤ m ∧ m ≤ 5 := by omega
    have p6 : 1 ≤ 6 ^ ks.length := Nat.one_le_pow _ _ (by omega)
    have a1 : 1 * prodK ks ≤ m * prodK ks := Nat.mul_le_mul_right _ h5.1
    have a2 : m * prodK ks ≤ 5 * prodK ks := Nat.mul_le_mul_right _ h5.2
    have a3 : m * stepsK ks ≤ 5 * stepsK ks := Nat.mul_le_mul_right _ h5.2
    refine ⟨?_, ?_, ?_⟩
    · rw [prodK, hm]; omega
    · rw [prodK, hm, List.length_cons, Nat.pow_succ]; omega
    · rw [stepsK, hm, List.length_cons, Nat.pow_succ]; omega
theorem prodK_max {ks : List Int} (h : ∀ k ∈ ks, 1 ≤ k ∧ k ≤ 5) (hl : ks.length ≤ 4) : 1 ≤ prodK ks ∧ prodK ks ≤ 625 ∧ stepsK ks ≤ 1296 := by
  obtain ⟨h1, h2, h3⟩ := prodK_le h
  have a : 5 ^ ks.length ≤ 5 ^ 4 := Nat.pow_le_pow_right (by omega) hl
  have b : 6 ^ ks.length ≤ 6 ^ 4 := Nat.pow_le_pow_right (by omega) hl
  omega
theorem own_cap {w : World} {B n : Nat} {e : TypeId} {v : Value} {xs : List Value} (h : w.ownsRow B e 1 v n xs) : ∃ A c, v = .slice A n c ∧ n ≤ c ∧ c ≤ maxLen := by
  rcases h.2 with ⟨rfl, rfl⟩ | ⟨g, c, cur, rfl, h1, h2, h3, h4, _⟩
  · exact ⟨none, 0, rfl, Nat.le_refl _, by unfold maxLen; omega⟩
  · exact ⟨_, c, rfl, h3, h4⟩
theorem codeK_u32 : ∀ {ks : List Int}, (∀ k ∈ ks, 1 ≤ k ∧ k ≤ 5) → ks.length ≤ 4 → ∀ x ∈ codeK ks, 0 ≤ x ∧ x < 4294967296
  | [], _, _, x, hx => by simp [codeK] at hx; omega
  | k :: ks, h, hl, x, hx => by
    have hk := h k (by simp)
    simp at hl
    rcases List.mem_cons.1 hx with e | e
    · omega
    · exact codeK_u32 (ks := ks) (fun k hk => h k (by simp [hk])) (by omega) x e
structure LpRel (y : Nat → Nat) (n : Nat) (w : World) (v4 v5 v6 v7 v8 : Value) (wr : World) : Prop where
  ex : ∃ (k p s : Nat) (cs : List Int), k ≤ n ∧ v8 = .int .i64 (k : Int) ∧ v5 = .int .i64 (k : Int) ∧ v4 = .int .i64 (p : Int) ∧ v6 = .int .i64 (s : Int) ∧ wr.ownsRow w.heap.size 22 1 v7 k (CW cs) ∧
    (p * stepsK ((kOf y n).drop k) + s = stepsK (kOf y n) ∧ p * prodK ((kOf y n).drop k) = prodK (kOf y n) ∧ cs ++ codeK ((kOf y n).drop k) = codeK (kOf y n)) ∧ Below w.heap.size w wr
theorem xk_any {ks : List Int} (hq : ks.length ≤ 4) (hk : ∀ k ∈ ks, 1 ≤ k ∧ k ≤ 5) (gm : Nat) (w : World) (hm : MM w gm (.iface 31 (.pointer (some ⟨gm, 0, none⟩))) ⟨codeK ks ++ [], ks.length + 1, 0⟩ (fun _ => False)) (hL : Laid w) (h0 : 0 < gm) :
    Calls Tryd.prog 10 #[.agg (cells (freshR 0 0 0)).toArray, .iface 31 (.pointer (some ⟨gm, 0, none⟩)), .int .i64 (stepsK ks : Int)] w fun e w' =>
      ∃ lt, e = .returned (.tuple #[.agg (cells (toR (ks.length : Int) ((ks.length : Int) + 1) [] (prodK ks : Int))).toArray, .int .i64 (stepsK ks : Int), .int .i64 (stepsK ks : Int), .agg #[.int .i64 lt, .int .i64 (-1), .int .i64 0]]) ∧ PS (fun b => b = gm) w w' := by
  rw [List.append_nil] at hm
  obtain ⟨hp1, hp2, hs⟩ := prodK_max hk hq
  obtain ⟨lt, hrun, hok⟩ := loops_run hq hk (by omega) (by omega) 0
  have C := run_any (domMem gm (.iface 31 (.pointer (some ⟨gm, 0, none⟩)))) (scMem gm (.iface 31 (.pointer (some ⟨gm, 0, none⟩)))) (freshR 0 0 0) ⟨codeK ks, ks.length + 1, 0⟩ (stepsK ks : Int) w (fun _ => False)
    (fresh_ok ⟨by decide, by decide⟩ ⟨by decide, by decide⟩ ⟨by decide, by decide⟩) hok hm (fun _ h => h.elim) hL (fun b h => by rw [h]; exact hm.lt) (by omega) ⟨by omega, by omega⟩
  rw [hrun] at C
  refine C.mono ?_
  rintro e w' ⟨rfl, _, h2⟩
  exact ⟨lt, rfl, h2⟩
set_option maxRecDepth 100000 in
set_option maxHeartbeats 16000000 in
theorem loops_core (a : Option Addr) (len cap : Nat) (y : Nat → Nat) (w : World) (h : BytesAt w a len y) (hL : Laid w) : Calls Tryd.prog 6 #[.slice a len cap] w fun e w' => e = .returned (.bool true) ∧ Below w.heap.size w w' := by
  obtain ⟨i0, hinf, hz0, hz1, hz2⟩ := cinfo_of cu32_info
  obtain ⟨n, hn⟩ : ∃ n : Nat, min len 4 = n := ⟨_, rfl⟩
  have hnI : min (len : Int) 4 = (n : Int) := by omega
  have HN : Hid (n ≤ 4 ∧ n ≤ len) := by unfold Hid; omega
  have HY := Lib.hid h.1
  have HA := Lib.hid h.2
  have HLD := Lib.hid hL
  clear hn h hL
  go_enter Tryd.func6, Tryd.ntmps6
  go_wp2_with fail
  clear hnI
  go_loopw [4, 5, 6, 7, 8] (fun v4 v5 v6 v7 v8 wr => LpRel y n w v4 v5 v6 v7 v8 wr) (fun _ _ _ _ v => fun _ => n - (intOf v).toNat)
  case atStart => exact ⟨⟨0, 1, 0, [], Nat.zero_le _, rfl, rfl, rfl, rfl, World.ownsRow_nil _ _ _ _, ⟨by simp, by simp, by simp⟩, Below.refl _ _⟩⟩
  case round =>
    obtain ⟨⟨k, p, s, cs, hk, rfl, rfl, rfl, rfl, ho, hx, hb⟩⟩ := hrel
    obtain ⟨A, c, rfl, hkc, hcm⟩ := own_cap ho
    have HK := Lib.hid hk
    have HO := Lib.hid ho
    have HX := Lib.hid hx
    have HB := Lib.hid hb
    clear hk ho hx hb hkc hcm
    by_cases hlt : k < n
    · have hkI : (k : Int) < (n : Int) := by omega
      have HKX : Hid (k < n) := hlt
      obtain ⟨b, off, rfl, hc⟩ := HA.out (by have := HN.out; omega)
      have hlI : (k : Int) < (len : Int) := by have := HN.out; omega
      have d0 : wr.cell? ⟨b, off + k, none⟩ = some (.int .u8 (y k : Int)) := cell_later HB.out (hc k (by have := HN.out; omega))
      obtain ⟨q, hq⟩ : ∃ q : Nat, 1 + y k % 5 = q := ⟨_, rfl⟩
      have hqI : (1 : Int) + (y k : Int) % 5 = (q : Int) := by omega
      have HQ : Hid (1 ≤ q ∧ q ≤ 5) := by unfold Hid; omega
      have HC3 : Hid (k + 1 ≤ maxLen ∧ (k + 1) * 4 ≤ 140737488355328) := by have := HN.out; unfold Hid maxLen; omega
      have CE := Lib.hid fun (W : World) => encode_ref 18 0 ((n : Int) - (k : Int)) (q : Int) W (by omega) (by omega) (by have := HN.out; omega) (by have := HQ.out; omega)
      have hyk := HY.out k
      have HD : Hid ((kOf y n).drop k = (q : Int) :: (kOf y n).drop (k + 1)) := by
        have := kOf_drop (y := y) hlt
        unfold Hid
        rw [this]
        congr 1 <;> omega
      have hwn : wrap64 ((n : Int) - (k : Int)) = (n : Int) - (k : Int) := IntWalk.wrap64_in _ (by have := HN.out; omega)
      have HP := prodK_max (ks := (kOf y n).drop (k + 1)) (fun k h => kOf_mem (List.mem_of_mem_drop h)) (by rw [List.length_drop, kOf_len]; have := HN.out; omega)
      have HPK := prodK_max (ks := kOf y n) (fun k h => kOf_mem h) (by rw [kOf_len]; exact HN.out.1)
      have HX1 : Hid (p * (1 + q * stepsK ((kOf y n).drop (k + 1))) + s = stepsK (kOf y n) ∧ p * (q * prodK ((kOf y n).drop (k + 1))) = prodK (kOf y n) ∧ cs ++ ((2415919104 + ((((kOf y n).drop (k + 1)).length : Int) + 1) * 524288 + (q : Int)) :: codeK ((kOf y n).drop (k + 1))) = codeK (kOf y n)) := by
        have := HX.out
        rw [HD.out] at this
        exact this
      obtain ⟨st, hst⟩ : ∃ st, stepsK ((kOf y n).drop (k + 1)) = st := ⟨_, rfl⟩
      obtain ⟨pd, hpd⟩ : ∃ pd, prodK ((kOf y n).drop (k + 1)) = pd := ⟨_, rfl⟩
      rw [hst, hpd] at HP HX1
      have HP1 : Hid (p * q * st + (s + p) = stepsK (kOf y n) ∧ p * q * pd = prodK (kOf y n)) := by
        obtain ⟨h1, h2, _⟩ := HX1.out
        constructor
        · rw [Nat.mul_add, Nat.mul_one, ← Nat.mul_assoc] at h1; omega
        · rw [Nat.mul_assoc]; exact h2
      have HPQ : Hid (p * q ≤ 625 ∧ s + p ≤ 1296 ∧ p ≤ 625) := by
        have h1 := HP1.out.2
        have h2 := HP1.out.1
        have h3 : p * q * 1 ≤ p * q * pd := Nat.mul_le_mul_left _ HP.1
        have h4 : p * 1 ≤ p * q := Nat.mul_le_mul_left _ HQ.out.1
        refine ⟨by omega, by omega, by omega⟩
      have hws : wrap64 ((s : Int) + (p : Int)) = ((s + p : Nat) : Int) := by rw [IntWalk.wrap64_in _ (by have := HPQ.out; omega)]; omega
      have hwp : wrap64 ((p : Int) * (q : Int)) = ((p * q : Nat) : Int) := by
        have e : (p : Int) * (q : Int) = ((p * q : Nat) : Int) := by rw [Int.natCast_mul]
        rw [e, IntWalk.wrap64_in _ (by have := HPQ.out; omega)]
      have hk1 : wrap64 ((k : Int) + 1) = (k : Int) + 1 := IntWalk.wrap64_in _ (by have := HN.out; omega)
      have HWR := Lib.hid (And.intro hws (And.intro hwp hk1))
      clear hc hlt hq hyk HPK HP hws hwp hk1
      go_wp2_with fail
      refine (CE.out _).mono ?_
      rintro e V1 ⟨rfl, b1⟩
      have HB1 : Hid (Below w.heap.size w V1) := HB.out.trans (b1.mono HB.out.size)
      have HO0 := Lib.hid (own_below HO.out b1)
      clear b1 d0
      obtain ⟨wd, hwd⟩ : ∃ wd : Int, 18 * 134217728 + 0 * 8388608 + ((n : Int) - (k : Int)) * 524288 + (q : Int) = wd := ⟨_, rfl⟩
      rw [hwd]
      have HWD : Hid (2415919104 + ((((kOf y n).drop (k + 1)).length : Int) + 1) * 524288 + (q : Int) = wd) := by
        unfold Hid
        rw [List.length_drop, kOf_len, ← hwd]
        have := HKX.out
        clear hwn
        omega
      clear hwd
      have HO1 : Hid ((V1.alloc (.cells #[.int .u32 wd] 22)).ownsRow w.heap.size 22 1 (.slice A k c) k (CW cs)) := own_below HO0.out ((Below.refl _ _).alloc (Nat.le_refl _) _)
      have RD : Hid (Reads (V1.alloc (.cells #[.int .u32 wd] 22)) (V1.heap.size + 1) 1 (some ⟨V1.heap.size, 0, none⟩) 1 [.int .u32 wd]) := ⟨rfl, fun _ => ⟨_, rfl, by simp, fun j u hu => by
        match j, hu with
        | 0, hu => simp at hu; subst hu; rw [Addr.add_lit]; simp
        | j + 1, hu => simp at hu⟩⟩
      go_wp2_with (at_builtin; refine wpList_append_any _ rfl _ _ 29 rfl w.heap.size 22 i0 (.int .u32 0) 1 4 Tryd.underlying29 hinf hz0 hz1 hz2 rfl (by decide) _ _ _ rfl HO1.out (V1.heap.size + 1) (some ⟨V1.heap.size, 0, none⟩) 1 1 [.int .u32 wd] rfl RD.out ?c2 ?c3 ?c4 ?c5 ?_)
      case c2 => intro u hu; simp at hu; subst hu; rfl
      case c3 => exact HC3.out.1
      case c4 => exact HC3.out.2
      case c5 => have := HB1.out.size; clear hwn; simp; omega
      intro v' w2 hown hgrow hblk
      obtain ⟨A', c', rfl, _, _⟩ := own_cap hown
      have HO2 : Hid (w2.ownsRow w.heap.size 22 1 (.slice A' (k + 1) c') (k + 1) (CW (cs ++ [wd]))) := by
        have : CW (cs ++ [wd]) = CW cs ++ [.int .u32 wd] := by simp [CW]
        unfold Hid
        rw [this]; exact hown
      have HB2 : Hid (Below w.heap.size w w2) := by
        have h1 : Below w.heap.size w (V1.alloc (.cells #[.int .u32 wd] 22)) := HB1.out.alloc HB1.out.size _
        exact h1.grown hgrow (by have := HB1.out.size; simp; omega) (fun k hk => (HO1.out.lt k hk).1)
      clear hown hgrow hblk hwn
      obtain ⟨hws, hwp, hk1⟩ := HWR.out
      clear HWR
      go_wp2_with fail
      go_roundw
      case rel =>
        have Q : LpRel y n w (.int .i64 ((p * q : Nat) : Int)) (.int .i64 ((k : Int) + 1)) (.int .i64 ((s + p : Nat) : Int)) (.slice A' (k + 1) c') (.int .i64 ((k : Int) + 1)) w2 :=
          ⟨⟨k + 1, p * q, s + p, cs ++ [wd], HKX.out, by go_num, by go_num, rfl, rfl, HO2.out, ⟨by rw [hst]; exact HP1.out.1, by rw [hpd]; exact HP1.out.2, by have := HX1.out.2.2; rw [HWD.out] at this; simpa using this⟩, HB2.out⟩⟩
        first | exact Q | (rw [hk1, hws, hwp]; exact Q) | (simp only [hk1, hws, hwp]; exact Q)
      case measure =>
        have := HKX.out
        rw [hk1]
        show n - ((k : Int) + 1).toNat < n - (k : Int).toNat
        clear hk1 hws hwp
        omega
    · have hkn : k = n := by have := HK.out; omega
      clear hlt
      subst hkn
      have hdr : (kOf y k).drop k = [] := List.drop_of_length_le (by rw [kOf_len]; omega)
      have HX1 : Hid (s + p = stepsK (kOf y k) ∧ p = prodK (kOf y k) ∧ cs ++ [562036737] = codeK (kOf y k)) := by
        obtain ⟨h1, h2, h3⟩ := HX.out
        rw [hdr] at h1 h2 h3
        have e1 : stepsK [] = 1 := rfl
        have e2 : prodK [] = 1 := rfl
        rw [e1] at h1
        rw [e2] at h2
        exact ⟨by omega, by omega, h3⟩
      have hks4 : (kOf y k).length ≤ 4 := by rw [kOf_len]; exact HN.out.1
      have HPK := prodK_max (ks := kOf y k) (fun k h => kOf_mem h) hks4
      have XK := xk_any (ks := kOf y k) hks4 (fun k h => kOf_mem h)
      have HU := Lib.hid (codeK_u32 (ks := kOf y k) (fun k h => kOf_mem h) hks4)
      have HCL : Hid ((codeK (kOf y k)).length = k + 1) := by unfold Hid; rw [codeK_len, kOf_len]
      have HCS := HX1.out.2.2
      rw [← HX1.out.1, ← HX1.out.2.1] at XK HPK
      simp only [kOf_len] at XK
      obtain ⟨T, hT⟩ : ∃ T, s + p = T := ⟨_, rfl⟩
      obtain ⟨CK, hCK⟩ : ∃ CK, codeK (kOf y k) = CK := ⟨_, rfl⟩
      obtain ⟨RF, hRF⟩ : ∃ RF, toR (k : Int) ((k : Int) + 1) [] (p : Int) = RF := ⟨_, rfl⟩
      rw [hT] at XK HPK
      rw [hCK] at XK HU HCL HCS
      rw [hRF] at XK
      have hRL : RF.length = 45 := by rw [← hRF]; rfl
      have g3 : RF.getD 3 0 = (p : Int) := by rw [← hRF]; rfl
      have g16 : RF.getD 16 0 = (k : Int) + 1 := by rw [← hRF]; rfl
      have g44 : RF.getD 44 0 = 0 := by rw [← hRF]; rfl
      have HG := Lib.hid (And.intro hRL (And.intro g3 (And.intro g16 g44)))
      have HXK := Lib.hid XK
      have hk4 := HN.out.1
      have HWR : Hid (wrap64 ((s : Int) + (p : Int)) = (T : Int) ∧ IntKind.u32.wrap (p : Int) = (p : Int) ∧ wrap64 ((k : Int) + 1) = (k : Int) + 1 ∧ IntKind.u32.wrap ((k : Int) + 1) = (k : Int) + 1) := by
        refine ⟨?_, IntWalk.u32_in _ ⟨by omega, by omega⟩, IntWalk.wrap64_in _ (by omega), IntWalk.u32_in _ ⟨by omega, by omega⟩⟩
        rw [IntWalk.wrap64_in _ (by omega)]; omega
      have HC3 : Hid (k + 1 ≤ maxLen ∧ (k + 1) * 4 ≤ 140737488355328) := by have := HN.out; unfold Hid maxLen; omega
      clear XK hRL g3 g16 g44 hRF hCK hT HPK hks4 hdr HX1 HX hk4
      go_wp2_with fail
      refine (encode_lit 4 3 0 1 562036737 _ (by decide) (by decide) (by decide) (by decide) (by decide)).mono ?_
      rintro e V1 ⟨rfl, b1⟩
      have HB1 : Hid (Below w.heap.size w V1) := HB.out.trans (b1.mono HB.out.size)
      have HO0 := Lib.hid (own_below HO.out b1)
      clear b1
      have HO1 : Hid ((V1.alloc (.cells #[.int .u32 562036737] 22)).ownsRow w.heap.size 22 1 (.slice A k c) k (CW cs)) := own_below HO0.out ((Below.refl _ _).alloc (Nat.le_refl _) _)
      have RD : Hid (Reads (V1.alloc (.cells #[.int .u32 562036737] 22)) (V1.heap.size + 1) 1 (some ⟨V1.heap.size, 0, none⟩) 1 [.int .u32 562036737]) := ⟨rfl, fun _ => ⟨_, rfl, by simp, fun j u hu => by
        match j, hu with
        | 0, hu => simp at hu; subst hu; rw [Addr.add_lit]; simp
        | j + 1, hu => simp at hu⟩⟩
      go_wp2_with (at_builtin; refine wpList_append_any _ rfl _ _ 29 rfl w.heap.size 22 i0 (.int .u32 0) 1 4 Tryd.underlying29 hinf hz0 hz1 hz2 rfl (by decide) _ _ _ rfl HO1.out (V1.heap.size + 1) (some ⟨V1.heap.size, 0, none⟩) 1 1 [.int .u32 562036737] rfl RD.out ?c2 ?c3 ?c4 ?c5 ?_)
      case c2 => intro u hu; simp at hu; subst hu; rfl
      case c3 => exact HC3.out.1
      case c4 => exact HC3.out.2
      case c5 => have := HB1.out.size; simp; omega
      intro v' w2 hown hgrow hblk
      obtain ⟨A', c', rfl, hc1, hc2⟩ := own_cap hown
      have hr2 : Reads w2 w2.heap.size 1 A' (k + 1) (CW CK) := by
        have e : CW CK = CW cs ++ [.int .u32 562036737] := by rw [← HCS]; simp [CW]
        rw [e]; exact Reads.of_own hown
      have HB2 : Hid (Below w.heap.size w w2) := by
        have h1 : Below w.heap.size w (V1.alloc (.cells #[.int .u32 562036737] 22)) := HB1.out.alloc HB1.out.size _
        exact h1.grown hgrow (by have := HB1.out.size; simp; omega) (fun k hk => (HO1.out.lt k hk).1)
      have HR2 := Lib.hid hr2
      have HC := Lib.hid (And.intro hc1 hc2)
      clear hown hgrow hblk hr2 hc1 hc2 HCS
      go_wp2_with fail
      refine (fresh_any 0 0 0 _).mono ?_
      rintro e V4 ⟨rfl, b⟩
      have HB4 : Hid (Below w.heap.size w V4) := HB2.out.trans (b.mono HB2.out.size)
      have HR4 : Hid (Reads V4 V4.heap.size 1 A' (k + 1) (CW CK)) := (HR2.out.below b).more b.size
      clear b HR2
      go_wp2_with fail
      refine (new_small A' none (k + 1) 0 c' 0 CK [] _ HR4.out Reads.none_ (by have := HN.out; omega) (by decide) HC.out.1 (by decide) HC.out.2 (by unfold maxLen; decide) HU.out (by simp)).mono ?_
      rintro e V5 ⟨gm1, rfl, hg1, hg2, b, hmm⟩
      have HB5 : Hid (Below w.heap.size w V5) := HB4.out.trans (b.mono HB4.out.size)
      have HM1 := Lib.hid (hmm (fun _ => False) (fun _ h => h.elim))
      have HG1 : Hid (w.heap.size ≤ gm1) := by have := HB4.out.size; unfold Hid; omega
      clear b hmm hg1 hg2 HR4 HC
      have hws := HWR.out.1
      go_wp2_with fail
      clear hws
      refine (HXK.out gm1 V5 HM1.out (HLD.out.below HB5.out) (by have := HG1.out; have := HLD.out.lt; omega)).mono ?_
      rintro e V7 ⟨lt, rfl, hp⟩
      have b : Below w.heap.size V5 V7 := hp.below (fun q hq => by rw [hq]; exact HG1.out) HB5.out.size
      have HB7 : Hid (Below w.heap.size w V7) := HB5.out.trans b
      clear b hp HM1
      obtain ⟨V8, hV8⟩ : ∃ V, V7.alloc (.cells #[.int .u32 0, .int .u32 0, .int .u32 0, .int .u32 0, .int .u32 0, .int .u32 0, .int .u32 0, .int .u32 0, .int .u32 0, .int .u32 0, .int .u32 0, .int .u32 0, .int .u32 0, .int .u32 0, .int .u32 0, .int .u32 0, .int .u32 0, .int .u32 0, .int .u32 0, .int .u32 0, .int .u32 0, .int .u32 0, .int .i64 0, .int .u32 0, .int .u32 0, .int .i64 0, .int .u32 0, .int .u32 0, .int .i64 0, .int .u32 0, .int .u32 0, .int .i64 0, .int .u32 0, .int .u32 0, .int .i64 0, .int .u32 0, .int .u32 0, .int .i64 0, .int .u32 0, .int .u32 0, .int .i64 0, .int .u32 0, .int .u32 0, .int .i64 0, .int .i64 0] 28) = V := ⟨_, rfl⟩
      obtain ⟨p1, hp1⟩ : ∃ p, V7.heap.size = p := ⟨_, rfl⟩
      have z : RB V8 p1 R0 [] 28 := by rw [← hV8, ← hp1]; exact RB.zero _ _
      have b : Below V7.heap.size V7 V8 := by rw [← hV8]; exact (Below.refl _ _).alloc (Nat.le_refl _) _
      obtain ⟨V9, hV9⟩ : ∃ V, V8.alloc (.cells #[.int .i64 0, .int .i64 0, .int .i64 0] 35) = V := ⟨_, rfl⟩
      obtain ⟨q1, hq1⟩ : ∃ p, V8.heap.size = p := ⟨_, rfl⟩
      have y' : V9.heap[q1]? = some (.cells #[.int .i64 0, .int .i64 0, .int .i64 0] 35 (0, 0)) := by rw [← hV9, ← hq1]; exact heap_alloc_new _ _
      have b2 : Below V8.heap.size V8 V9 := by rw [← hV9]; exact (Below.refl _ _).alloc (Nat.le_refl _) _
      have z2 := z.below b2
      have bb : Below w.heap.size w V9 := (HB7.out.trans (b.mono HB7.out.size)).trans (b2.mono (by have := HB7.out.size; have := b.size; omega))
      obtain ⟨V10, hV10⟩ : ∃ V, V9.setCells p1 0 (cells RF) = V := ⟨_, rfl⟩
      have p3 : Past p1 V9 V10 := by rw [← hV10]; exact past_setCells _ _ _ _
      have hlt : p1 < q1 := by rw [← hq1]; exact z.lt
      have hwp : w.heap.size ≤ p1 := by rw [← hp1]; exact HB7.out.size
      have z3 : RB V10 p1 RF [] 28 := by rw [← hV10]; exact z2.store _ (by rw [r0_len]; exact HG.out.1)
      have y3 := (p3.block q1 (Array.getElem?_eq_some_iff.1 y').1 (by omega)).trans y'
      have e0 := (row_cell y3 0).1
      have e1 := (row_cell y3 1).1
      have e2 := (row_cell y3 2).1
      have e3 := (row_cell y3 0).2
      have e4 := (row_cell y3 1).2
      have e5 := (row_cell y3 2).2
      simp at e0 e1 e2
      have p4 := set3_past (Past.refl q1 V10) (.int .i64 lt) (.int .i64 (-1)) (.int .i64 0)
      have y4 := set3_heap y3 (.int .i64 lt) (.int .i64 (-1)) (.int .i64 0)
      have z4 := z3.keep (p4.block p1 z3.lt (by omega))
      have bc := bb.trans ((p3.below hwp bb.size).trans (p4.below (by omega) (by have := bb.size; have := p3.size; omega)))
      have Z2 := Lib.hid z2
      have E3 := Lib.hid hV10
      have HY1 := Lib.hid y4
      have HZ1 := Lib.hid z4
      have HB11 := Lib.hid bc
      clear z b y' b2 z2 bb p3 hlt hwp z3 y3 p4 y4 z4 bc hV10
      go_upto_region 14 with (refine wpList_store_regs rfl _ _ rfl rfl rfl Z2.out r0_len HG.out.1 ?_; rw [E3.out]; dsimp only [Act.put])
      clear hV8 hV9 hp1 hq1 e0 e1 e2 e3 e4 e5 Z2 E3
      generalize ((V10.setCell ⟨q1, 0, none⟩ (.int .i64 lt)).setCell ⟨q1, 1, none⟩ (.int .i64 (-1))).setCell ⟨q1, 2, none⟩ (.int .i64 0) = V11 at HY1 HZ1 HB11 ⊢
      go_wp2_with fail
      refine (known_any V11 (HLD.out.below HB11.out)).mono ?_
      rintro e V12 ⟨rfl, b⟩
      have HB12 : Hid (Below w.heap.size w V12) := HB11.out.trans (b.mono HB11.out.size)
      have HY2 : Hid (V12.heap[q1]? = some (.cells #[.int .i64 lt, .int .i64 (-1), .int .i64 0] 35 (0, 0))) := heap_keep b HY1.out
      have HZ2 : Hid (RB V12 p1 RF [] 28) := HZ1.out.below b
      clear b
      have a2 := (row_cell HY2.out 2).1
      simp at a2
      have r1 : V12.cell? ⟨p1, 3, none⟩ = some (Value.int .u32 (p : Int)) := by
        have := HZ2.out.cellk (k := .u32) (o := 3) (by rw [HG.out.1]; decide) rfl
        rwa [HG.out.2.1] at this
      have r3 : V12.cell? ⟨p1, 16, none⟩ = some (Value.int .u32 ((k : Int) + 1)) := by
        have := HZ2.out.cellk (k := .u32) (o := 16) (by rw [HG.out.1]; decide) rfl
        rwa [HG.out.2.2.1] at this
      have r4 : V12.cell? ⟨p1, 44, none⟩ = some (Value.int .i64 0) := by
        have := HZ2.out.cellk (k := .i64) (o := 44) (by rw [HG.out.1]; decide) rfl
        rwa [HG.out.2.2.2] at this
      dsimp only
      obtain ⟨hws, hup, hk1, huk⟩ := HWR.out
      clear HWR
      go_wp2_with fail
      go_ret
      exact ⟨rfl, HB12.out⟩
theorem loops_walk (a : Option Addr) (len cap : Nat) (zs : List Int) (w : World) (h : IsRow .u8 w a len cap zs) (hL : Laid w) :
    Calls Tryd.prog 6 #[.slice a len cap] w fun e w' => e = .returned (.bool true) ∧ Below w.heap.size w w' := by
  obtain ⟨y, hy⟩ := bytes_at h
  exact loops_core a len cap y w hy hL
end Go.Proofs.YthmalhakkdjilaaDoor
