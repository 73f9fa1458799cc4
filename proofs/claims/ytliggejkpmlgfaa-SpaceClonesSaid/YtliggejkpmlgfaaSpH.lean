/-
  The contract of Fresh. Each statement bears its own conditions.
-/
import Derived.Test.YtliggejkpmlgfaaSpG
namespace Go.Proofs.Ytliggejkpmlgfaa
open Go.RowKit
set_option linter.unusedVariables false
set_option linter.unusedSimpArgs false
theorem flat_set {l : List MA} : ∀ {LL : List (List Int)} {i : Nat} {L M : List Int}, LL.length = l.length → (∀ (i : Nat) x L, l[i]? = some x → LL[i]? = some L → (L.length : Int) = x.wds) → LL[i]? = some L →
    (LL.set i M).flatten = LL.flatten.take (sumW (l.take i)).toNat ++ M ++ LL.flatten.drop ((sumW (l.take i)).toNat + L.length) ∧ 0 ≤ sumW (l.take i) ∧ (sumW (l.take i)).toNat + L.length ≤ LL.flatten.length := by
  induction l with
  | nil => intro LL i L M h1 h2 h3; simp at h1; subst h1; simp at h3
  | cons a r ih =>
    intro LL i L M h1 h2 h3
    match LL, h1 with
    | N :: LL, h1 =>
      cases i with
      | zero =>
        simp at h3; subst h3
        simp [sumW]
      | succ i =>
        have hM := h2 0 a N rfl rfl
        obtain ⟨e1, e2, e3⟩ := ih (LL := LL) (i := i) (L := L) (M := M) (by simpa using h1) (fun j y N hy hN => h2 (j + 1) y N (by simpa using hy) (by simpa using hN)) (by simpa using h3)
        have hs : (sumW ((a :: r).take (i + 1))).toNat = N.length + (sumW (r.take i)).toNat := by
          simp only [List.take_succ_cons, sumW]; omega
        refine ⟨?_, by simp only [List.take_succ_cons, sumW]; omega, by rw [hs, List.flatten_cons, List.length_append]; omega⟩
        rw [hs, List.set_cons_succ, List.flatten_cons, List.flatten_cons, e1, List.take_length_add_append, Nat.add_assoc, List.drop_length_add_append]
        simp
theorem Sh.setL {l : List MA} {LL : List (List Int)} (h : Sh l LL) {i : Nat} {L M : List Int} (hL : LL[i]? = some L) (hM : M.length = L.length) (hu : ∀ x ∈ M, U32 x) : Sh l (LL.set i M) := by
  refine ⟨by simpa using h.len, fun j x N hx hN => ?_, h.good, h.few, h.sum, fun N hN z hz => ?_⟩
  · rw [List.getElem?_set] at hN
    by_cases hj : i = j
    · subst hj
      rw [if_pos rfl] at hN
      split at hN
      · simp at hN; subst hN
        have := h.each i x L hx hL
        rw [hM]; exact this
      · cases hN
    · rw [if_neg hj] at hN
      exact h.each j x N hx hN
  · rcases List.mem_or_eq_of_mem_set hN with h1 | rfl
    · exact h.word N h1 z hz
    · exact hu z hz
/-- The words, the first k areas made fresh. -/
def frS (keep : Bool) (l : List MA) (LL : List (List Int)) : Nat → List (List Int)
  | 0 => LL
  | k + 1 => match l[k]?, (frS keep l LL k)[k]? with
    | some x, some L => if keep = true ∧ x.kp = true then frS keep l LL k else (frS keep l LL k).set k (List.replicate L.length 0)
    | _, _ => frS keep l LL k
theorem Sh.fresh {l : List MA} {LL : List (List Int)} (h : Sh l LL) (keep : Bool) : ∀ k, Sh l (frS keep l LL k)
  | 0 => h
  | k + 1 => by
    have ih := Sh.fresh h keep k
    unfold frS
    split
    next x L hx hL =>
      split
      · exact ih
      · exact ih.setL hL (by simp) (fun x hx => by rw [(List.mem_replicate.1 hx).2]; unfold U32; omega)
    · exact ih
theorem Sh.freshAt {l : List MA} {LL : List (List Int)} (h : Sh l LL) {keep : Bool} {k : Nat} {x : MA} (hx : l[k]? = some x) : ∃ L, (frS keep l LL k)[k]? = some L ∧ (L.length : Int) = x.wds ∧ frS keep l LL (k + 1) = if keep = true ∧ x.kp = true then frS keep l LL k else (frS keep l LL k).set k (List.replicate L.length 0) := by
  have ih := h.fresh keep k
  have hk : k < (frS keep l LL k).length := by rw [ih.len]; exact (List.getElem?_eq_some_iff.1 hx).1
  have hL := List.getElem?_eq_getElem hk
  refine ⟨_, hL, ih.each k x _ hx hL, ?_⟩
  rw [frS, hx, hL]
theorem zeroU (n : Nat) : (Builtin.zeroCells #[.int .u32 0] n).toList = CU (List.replicate n 0) := by
  unfold Builtin.zeroCells CU
  simp
  rw [List.eq_replicate_iff]
  simp
  intro a _
  rw [Nat.mod_one]; rfl
theorem clear_u32 (ty : TypeId) (g o n c : Nat) (cur : Array Value) (e : TypeId) (W : World) (hg : W.heap[g]? = some (.cells cur e (0, 0))) (hn : 0 < n) (hfit : o + n ≤ cur.size) :
    (Builtin.clear_ #[40] ty #[.slice (some ⟨g, o, none⟩) n c]).run Try.prog W = .ok (.tuple #[]) (W.setRow g (cur.toList.take o ++ CU (List.replicate n 0) ++ cur.toList.drop (o + n)).toArray) := by
  obtain ⟨i0, hi, hz0, hz1, hz2⟩ := info_of u32_info
  have hv : ∀ w, (zeroValue 39).run Try.prog w = .ok (.int .u32 0) w := fun w => by simp [zeroValue, typeInfo, hi, hz0]
  have hst := run_store_row (P := Try.prog) W g o e (CU (List.replicate n 0)) cur hg (by rw [CU_len]; simpa using hfit) (CU_one _)
  rw [CU_len, List.length_replicate] at hst
  have hz : (Value.int .u32 0).cells = #[.int .u32 0] := rfl
  obtain ⟨m, rfl⟩ : ∃ m, n = m + 1 := ⟨n - 1, by omega⟩
  simp [Builtin.clear_, run_underlying Try.underlying40, hv, hz, zeroU, hst]
theorem SP.clear {lo hi : Nat} {w : World} {p rb o n : Nat} {l : List MA} {ws : List Int} (h : SP lo hi w p rb l ws) (hj : o + n ≤ ws.length) : ∃ cur, w.heap[rb]? = some (.cells cur 39 (0, 0)) ∧ o + n ≤ cur.size ∧
    SP lo hi (w.setRow rb (cur.toList.take o ++ CU (List.replicate n 0) ++ cur.toList.drop (o + n)).toArray) p rb l (ws.take o ++ List.replicate n 0 ++ ws.drop (o + n)) := by
  obtain ⟨va, cap, h1, h2, h3, h4⟩ := h.ex
  rcases h4.2 with ⟨h5, _⟩ | ⟨g', cap', cur, hv, hb, hg, h6, h7, h8, h9⟩
  · cases h5
  · injection hv with e1 e2 e3
    injection e1 with e1
    injection e1 with e1
    subst e1 e3
    have hlen : (ws.take o ++ List.replicate n 0 ++ ws.drop (o + n)).length = ws.length := by simp; omega
    have hcs : cur.size = cap := by simpa using h8
    refine ⟨cur, hg, by omega, ?_⟩
    refine ⟨by simpa using h.hs, h.hp, h.hr, h.ne, va, cap, ?_, own_same h2 fun g hg => setRow_other _ _ _ _ (h3 g hg).1, h3, ?_⟩
    · rw [setRow_other _ _ _ _ h.ne, hlen]; exact h1
    · rw [hlen]
      refine ⟨by rw [CU_len]; omega, .inr ⟨rb, cap, _, rfl, hb, setRow_heap _ _ _ _ _ _ hg, h6, h7, by simp [CU_len]; omega, ?_⟩⟩
      have h9' : cur.toList.take ws.length = CU ws := by simpa using h9
      have hcl : cur.toList.length = cap := by simpa using hcs
      simp only [CU_app, List.toList_toArray, Nat.mul_one]
      have e1 : cur.toList.take o = CU (ws.take o) := by
        have : (cur.toList.take ws.length).take o = (CU ws).take o := by rw [h9']
        rw [List.take_take, Nat.min_eq_left (by omega)] at this
        rw [this]; simp [CU, List.map_take]
      have e2 : (cur.toList.drop (o + n)).take (ws.length - (o + n)) = CU (ws.drop (o + n)) := by
        have : (cur.toList.take ws.length).drop (o + n) = (CU ws).drop (o + n) := by rw [h9']
        rw [List.drop_take] at this
        rw [this]; simp [CU, List.map_drop]
      rw [e1]
      have hl1 : (CU (ws.take o) ++ CU (List.replicate n 0)).length = o + n := by rw [List.length_append, CU_len, CU_len, List.length_take, List.length_replicate]; omega
      have hx : ws.length = (CU (ws.take o) ++ CU (List.replicate n 0)).length + (ws.length - (o + n)) := by rw [hl1]; omega
      rw [hx, List.take_length_add_append, e2]
theorem wp_clear_run {P : Program} (w : World) {o : Oper} {a : Act} {K : Act → World → Prop} {Q : Exit → Act → World → Prop} (d : Operand) (t : TypeId)
    (ho : o.op = .call { callee := .builtin .clear, args := #[d], argTypes := #[t] }) (v : Value) (hd : a.eval d = v) {v' : Value} {w' : World}
    (hr : (Builtin.clear_ #[t] o.type #[v]).run P w = .ok v' w') (h : K (a.put o.dst v') w') : o.wp P a w K Q := by
  unfold Oper.wp execOp
  simp only [ho, resolve, invoke, builtin, Sem.run_bind, Sem.run_pure, Result.andThen_ok, List.map_toArray, List.map_cons, List.map_nil, hd, hr]
  exact h
theorem Past.setRow {g : Nat} {a w : World} (h : Past g a w) (cs : Array Value) : Past g a (w.setRow g cs) :=
  h.trans ⟨rfl, rfl, rfl, by simp, fun k _ hg => setRow_other _ _ _ _ hg⟩
structure FrRel (keep : Bool) (lo hi p rb n : Nat) (l : List MA) (LL : List (List Int)) (w : World) (v4 v : Value) (wr : World) : Prop where
  ex : ∃ k : Nat, k ≤ n ∧ v = .int .i64 (k : Int) ∧ v4 = .int .i64 (sumW (l.take k)) ∧ SP lo hi wr p rb l (frS keep l LL k).flatten ∧ Past rb w wr
set_option maxRecDepth 100000 in
set_option maxHeartbeats 8000000 in
theorem fresh_any (lo hi p rb : Nat) (l : List MA) (LL : List (List Int)) (keep : Bool) (w : World) (h : SP lo hi w p rb l LL.flatten) (hs : Sh l LL) :
    Calls Try.prog 19 #[.pointer (some ⟨p, 0, none⟩), .bool keep] w fun e w' => e = .returned (.tuple #[]) ∧ SP lo hi w' p rb l (frS keep l LL l.length).flatten ∧ Past rb w w' := by
  obtain ⟨A, c, cap, hp, hst, _, _⟩ := h.st
  obtain ⟨n, hn⟩ : ∃ n, l.length = n := ⟨_, rfl⟩
  have hpn := h.ne
  have hpw := Nat.lt_of_lt_of_le h.hp.2 h.hs
  rw [hn] at hp hst ⊢
  have HN := Lib.hid hn
  have HP := Lib.hid hp
  have H := Lib.hid hst
  have HSP := Lib.hid h
  have HS := Lib.hid hs
  have HF : Hid (n ≤ 16) := by have := hs.few; unfold Hid; omega
  have hf64 : n ≤ 64 := by have := HF.out; omega
  have HPN := Lib.hid hpn
  have cp := (row_cell hp 0).1
  simp at cp
  clear hp hst h hs hn
  have he : ∀ w : World, (binOp .eql 25 (.pointer (some ⟨p, 0, none⟩)) (.pointer none)).run Try.prog w = .ok (.bool false) w := fun _ => rfl
  go_enter Try.func19, Try.ntmps19
  go_wp2_with fail
  go_loopw [4, 14] (fun v4 v wr => FrRel keep lo hi p rb n l LL w v4 v wr) (fun _ v => fun _ => n - (intOf v).toNat)
  case atStart => exact ⟨⟨0, Nat.zero_le _, rfl, rfl, HSP.out, Past.refl _ _⟩⟩
  case round =>
    obtain ⟨⟨k, hk, rfl, rfl, hsp, hb⟩⟩ := hrel
    have HK := Lib.hid hk
    have HQ := Lib.hid hsp
    have HB := Lib.hid hb
    clear hk hsp hb cp
    by_cases hlt : k < n
    · have hkI : (k : Int) < (n : Int) := by omega
      have HX : Hid (k < n) := hlt
      obtain ⟨_, b, off, rfl, hbl, hg, hc⟩ := H.out.at_ hlt
      have hxs : l[k]? = some (l[k]'(by have := HN.out; omega)) := List.getElem?_eq_getElem _
      obtain ⟨x, hx⟩ : ∃ x, l[k]'(by have := HN.out; omega) = x := ⟨_, rfl⟩
      rw [hx] at hxs
      have HXS := Lib.hid hxs
      have hgx := HS.out.good x (List.mem_of_getElem? hxs)
      have hca := CA_at hxs
      obtain ⟨L, hL, hLl, hfs⟩ := HS.out.freshAt (keep := keep) hxs
      have HSK := HS.out.fresh keep k
      obtain ⟨s1, s2, s3⟩ := flat_set (M := List.replicate L.length 0) HSK.len HSK.each hL
      have hsum := sumW_snoc hxs
      have hflat := HSK.flat
      have hsm := HSK.sum
      obtain ⟨sn, hsn⟩ : ∃ sn : Nat, sumW (l.take k) = (sn : Int) := ⟨(sumW (l.take k)).toNat, by omega⟩
      obtain ⟨xf, xw, xx, xr, xk⟩ := x
      dsimp only at hgx hLl hfs hsum
      obtain ⟨xn, rfl⟩ : ∃ xn : Nat, xw = (xn : Int) := ⟨xw.toNat, by omega⟩
      have hLn : L.length = xn := by omega
      rw [hLn] at s1 s3 hfs
      rw [hsn] at s1 s3 hsum ⊢
      simp only [Int.toNat_natCast] at s1 s3
      have HSUM : Hid (sumW (l.take (k + 1)) = (sn : Int) + (xn : Int)) := hsum
      have HFS := Lib.hid hfs
      have HS1 := Lib.hid s1
      have HS3 := Lib.hid s3
      have hxn : 0 < xn := by omega
      have HXN := Lib.hid hxn
      have hs4 : sn + xn ≤ 4096 := by omega
      have HS4 := Lib.hid hs4
      have hw1 : IntKind.i64.wrap ((sn : Int) + (xn : Int)) = (sn : Int) + (xn : Int) := wrap_ok (by omega) (by omega)
      have d0 : wr.cell? ⟨b, off + k * 5, none⟩ = some (.int .i64 xf) := by have := hc _ _ (hca 0 _ rfl); exact cell_past HB.out hbl hg (by simpa [Nat.add_assoc] using this)
      have d1 : wr.cell? ⟨b, off + k * 5 + 1, none⟩ = some (.int .i64 (xn : Int)) := by have := hc _ _ (hca 1 _ rfl); exact cell_past HB.out hbl hg (by simpa [Nat.add_assoc] using this)
      have d2 : wr.cell? ⟨b, off + k * 5 + 2, none⟩ = some (.bool xx) := by have := hc _ _ (hca 2 _ rfl); exact cell_past HB.out hbl hg (by simpa [Nat.add_assoc] using this)
      have d3 : wr.cell? ⟨b, off + k * 5 + 3, none⟩ = some (.bool xr) := by have := hc _ _ (hca 3 _ rfl); exact cell_past HB.out hbl hg (by simpa [Nat.add_assoc] using this)
      have d4 : wr.cell? ⟨b, off + k * 5 + 4, none⟩ = some (.bool xk) := by have := hc _ _ (hca 4 _ rfl); exact cell_past HB.out hbl hg (by simpa [Nat.add_assoc] using this)
      clear hc hca hx hlt hbl hg hxs hgx hL hLl hfs HSK s1 s2 s3 hsum hflat hsm hsn hLn hs4
      obtain ⟨W1, hW1⟩ : ∃ W1, wr.alloc (.cells #[.int .i64 xf, .int .i64 (xn : Int), .bool xx, .bool xr, .bool xk] 57) = W1 := ⟨_, rfl⟩
      have BW1 : Below wr.heap.size wr W1 := by rw [← hW1]; exact (Below.refl _ _).alloc (Nat.le_refl _) _
      have HB1 : Hid (Past rb w W1) := HB.out.then_ BW1
      have HQ1 : Hid (SP lo hi W1 p rb l (frS keep l LL k).flatten) := HQ.out.below BW1
      have HBX : Hid (W1.heap[wr.heap.size]? = some (.cells #[.int .i64 xf, .int .i64 (xn : Int), .bool xx, .bool xr, .bool xk] 57 (0, 0))) := by rw [← hW1]; exact heap_alloc_new _ _
      have HNE : Hid (wr.heap.size ≠ rb) := by have h1 := HQ.out.hr.2; have h2 := HQ.out.hs; unfold Hid; omega
      have j1 : W1.cell? ⟨wr.heap.size, 1, none⟩ = some (.int .i64 (xn : Int)) := by rw [← hW1]; simp
      have HJ1 := Lib.hid j1
      have HW1 := Lib.hid hW1
      clear hW1 j1 BW1
      cases keep with
      | false =>
        have hnx : frS false l LL (k + 1) = (frS false l LL k).set k (List.replicate xn 0) := by rw [HFS.out, if_neg (by simp)]
        have HQD : SP lo hi W1.drew p rb l (frS false l LL k).flatten := HQ1.out.keep HQ1.out.hs (fun _ _ _ => rfl)
        obtain ⟨cur, q1, q2, q3⟩ := HQD.clear HS3.out
        rw [← HS1.out, ← hnx] at q3
        have Q3 := Lib.hid q3
        have HCL := Lib.hid fun ty c' => clear_u32 ty rb sn xn c' cur 39 W1.drew q1 HXN.out q2
        obtain ⟨_, _, cap, q4, _, _, q5⟩ := HQ1.out.st
        have x1 := (row_cell q4 1).1
        simp at x1
        obtain ⟨m, hm⟩ : ∃ m, (frS false l LL k).flatten.length = m := ⟨_, rfl⟩
        have hm1 := HS3.out
        rw [hm] at q5 hm1
        rw [← List.length_flatten, hm] at x1
        have hcap : ¬ (cap = sn) := by omega
        have hsc : sn + xn ≤ cap := by omega
        have HX1 := Lib.hid x1
        clear q1 q2 q3 q4 q5 hm hm1 hnx HQD x1
        go_wp2_with fail
        try simp only [HW1.out]
        refine wp_region_held_drew (S := (fun w' => Past rb w w' ∧ w'.cell? ⟨p, 1, none⟩ = some (.slice (some ⟨rb, 0, none⟩) m cap) ∧ w'.cell? ⟨wr.heap.size, 1, none⟩ = some (.int .i64 (xn : Int)))) (by kernel_rfl) ?_ (fun hHeld => ?_)
        · exact ⟨Past.drewN HB1.out 1, HX1.out, HJ1.out⟩
        refine takeD (i := 0) (d := some 25) (v := ?_) _ rfl rfl (by kernel_rfl) (by kernel_rfl) (by kernel_rfl) (fun _ _ _ h => h) (by rfl) ?_ (by assumption) ?_
        rotate_left
        · (intro w hSw; (try dsimp only at hSw); go_simp) <;> with_reducible rfl
        try simp only [Act.put, List.setIfInBounds_toArray, List.set_cons_zero, List.set_cons_succ]
        refine takeD (i := 1) (d := some 26) (v := ?_) _ rfl rfl (by kernel_rfl) (by kernel_rfl) (by kernel_rfl) (fun _ _ _ h => h) (by rfl) ?_ (by assumption) ?_
        rotate_left
        · (intro w hSw; (try dsimp only at hSw); go_simp) <;> with_reducible rfl
        try simp only [Act.put, List.setIfInBounds_toArray, List.set_cons_zero, List.set_cons_succ]
        refine takeD (i := 2) (d := some 27) (v := ?_) _ rfl rfl (by kernel_rfl) (by kernel_rfl) (by kernel_rfl) (fun _ _ _ h => h) (by rfl) ?_ (by assumption) ?_
        rotate_left
        · (intro w hSw; (try dsimp only at hSw); go_simp) <;> with_reducible rfl
        try simp only [Act.put, List.setIfInBounds_toArray, List.set_cons_zero, List.set_cons_succ]
        refine takeD (i := 3) (d := some 28) (v := ?_) _ rfl rfl (by kernel_rfl) (by kernel_rfl) (by kernel_rfl) (fun _ _ _ h => h) (by rfl) ?_ (by assumption) ?_
        rotate_left
        · (intro w hSw; (try dsimp only at hSw); go_simp) <;> with_reducible rfl
        try simp only [Act.put, List.setIfInBounds_toArray, List.set_cons_zero, List.set_cons_succ]
        refine takeD (i := 4) (d := some 29) (v := ?_) _ rfl rfl (by kernel_rfl) (by kernel_rfl) (by kernel_rfl) (fun _ _ _ h => h) (by rfl) ?_ (by assumption) ?_
        rotate_left
        · (intro w hSw; (try dsimp only at hSw); go_simp) <;> with_reducible rfl
        try simp only [Act.put, List.setIfInBounds_toArray, List.set_cons_zero, List.set_cons_succ]
        refine takeD (i := 5) (d := some 30) (v := ?_) _ rfl rfl (by kernel_rfl) (by kernel_rfl) (by kernel_rfl) (fun _ _ _ h => h) (by rfl) ?_ (by assumption) ?_
        rotate_left
        · (intro w hSw; (try dsimp only at hSw); go_simp) <;> with_reducible rfl
        try simp only [Act.put, List.setIfInBounds_toArray, List.set_cons_zero, List.set_cons_succ]
        refine takeD (i := 6) (d := some 31) (v := ?_) _ rfl rfl (by kernel_rfl) (by kernel_rfl) (by kernel_rfl) (fun _ _ _ h => h) (by rfl) ?_ (by assumption) ?_
        rotate_left
        · (intro w hSw; (try dsimp only at hSw); go_simp) <;> with_reducible rfl
        try simp only [Act.put, List.setIfInBounds_toArray, List.set_cons_zero, List.set_cons_succ]
        refine takeD (i := 7) (d := some 32) (v := ?_) _ rfl rfl (by kernel_rfl) (by kernel_rfl) (by kernel_rfl) (fun _ _ _ h => h) (by rfl) ?_ (by assumption) ?_
        rotate_left
        · (intro w hSw; (try dsimp only at hSw); go_simp) <;> with_reducible rfl
        try simp only [Act.put, List.setIfInBounds_toArray, List.set_cons_zero, List.set_cons_succ]
        refine takeD (i := 8) (d := some 33) (v := ?_) _ rfl rfl (by kernel_rfl) (by kernel_rfl) (by kernel_rfl) (fun _ _ _ h => h) (by rfl) ?_ (by assumption) ?_
        rotate_left
        · (intro w hSw; (try dsimp only at hSw); go_simp) <;> with_reducible rfl
        try simp only [Act.put, List.setIfInBounds_toArray, List.set_cons_zero, List.set_cons_succ]
        refine takeD (i := 9) (d := some 34) (v := .slice (some ⟨rb, sn, none⟩) xn (cap - sn)) _ rfl rfl (by kernel_rfl) (by kernel_rfl) (by kernel_rfl) (fun _ _ _ h => h) (by rfl) ?_ (by assumption) ?_
        · intro w hSw; (try dsimp only at hSw); go_simp; rw [if_pos ⟨by omega, by omega⟩, if_pos (by omega), show ((sn : Int) + (xn : Int)).toNat - sn = xn by omega]
        try simp only [Act.put, List.setIfInBounds_toArray, List.set_cons_zero, List.set_cons_succ]
        refine wpAnyH_ready (rs := [10]) (by kernel_rfl) (by simp) ?_
        refine AllReadyH.cons rfl (fun K hK => ?_) AllReadyH.nil
        refine wp_clear_run _ (.tmp 34) 40 rfl _ rfl (HCL.out _ _) ?_
        refine hK.out _ _ ?_ (fun hHeld => ?_)
        · exact ⟨hHeld.1.setRow _, (cell_setRow_other _ _ _ _ HPN.out).trans hHeld.2.1, (cell_setRow_other _ _ _ _ HNE.out).trans hHeld.2.2⟩
        clear hK K
        try simp only [Act.put, List.setIfInBounds_toArray, List.set_cons_zero, List.set_cons_succ]
        refine wpAnyH_done (by kernel_rfl) ?_ _
        have HB2 := Lib.hid hHeld.1
        have y1 := hHeld.2.2
        replace Q3 : Hid (SP lo hi (W1.drew.setRow rb _) p rb l _) := Q3
        generalize W1.drew.setRow rb _ = W4 at Q3 HB2 y1 ⊢
        clear hHeld HCL HX1 HJ1 d0 d1 d2 d3 d4
        go_wp2_with fail
        go_roundw
        case rel =>
          have Q : FrRel false lo hi p rb n l LL w (.int .i64 ((sn : Int) + (xn : Int))) (.int .i64 ((k : Int) + 1)) W4 := ⟨⟨k + 1, HX.out, by go_num, by rw [HSUM.out], Q3.out, HB2.out⟩⟩
          first | exact Q | ((repeat apply Exists.intro); exact ⟨Q, rfl⟩)
        case measure => have := HX.out; simp [intOf]; omega
      | true =>
        cases xk with
        | false =>
          have hnx : frS true l LL (k + 1) = (frS true l LL k).set k (List.replicate xn 0) := by rw [HFS.out, if_neg (by simp)]
          have HQD : SP lo hi W1.drew p rb l (frS true l LL k).flatten := HQ1.out.keep HQ1.out.hs (fun _ _ _ => rfl)
          obtain ⟨cur, q1, q2, q3⟩ := HQD.clear HS3.out
          rw [← HS1.out, ← hnx] at q3
          have Q3 := Lib.hid q3
          have HCL := Lib.hid fun ty c' => clear_u32 ty rb sn xn c' cur 39 W1.drew q1 HXN.out q2
          obtain ⟨_, _, cap, q4, _, _, q5⟩ := HQ1.out.st
          have x1 := (row_cell q4 1).1
          simp at x1
          obtain ⟨m, hm⟩ : ∃ m, (frS true l LL k).flatten.length = m := ⟨_, rfl⟩
          have hm1 := HS3.out
          rw [hm] at q5 hm1
          rw [← List.length_flatten, hm] at x1
          have hcap : ¬ (cap = sn) := by omega
          have hsc : sn + xn ≤ cap := by omega
          have HX1 := Lib.hid x1
          clear q1 q2 q3 q4 q5 hm hm1 hnx HQD x1
          go_wp2_with fail
          try simp only [HW1.out]
          refine wp_region_held_drew (S := (fun w' => Past rb w w' ∧ w'.cell? ⟨p, 1, none⟩ = some (.slice (some ⟨rb, 0, none⟩) m cap) ∧ w'.cell? ⟨wr.heap.size, 1, none⟩ = some (.int .i64 (xn : Int)))) (by kernel_rfl) ?_ (fun hHeld => ?_)
          · exact ⟨Past.drewN HB1.out 1, HX1.out, HJ1.out⟩
          refine takeD (i := 0) (d := some 25) (v := ?_) _ rfl rfl (by kernel_rfl) (by kernel_rfl) (by kernel_rfl) (fun _ _ _ h => h) (by rfl) ?_ (by assumption) ?_
          rotate_left
          · (intro w hSw; (try dsimp only at hSw); go_simp) <;> with_reducible rfl
          try simp only [Act.put, List.setIfInBounds_toArray, List.set_cons_zero, List.set_cons_succ]
          refine takeD (i := 1) (d := some 26) (v := ?_) _ rfl rfl (by kernel_rfl) (by kernel_rfl) (by kernel_rfl) (fun _ _ _ h => h) (by rfl) ?_ (by assumption) ?_
          rotate_left
          · (intro w hSw; (try dsimp only at hSw); go_simp) <;> with_reducible rfl
          try simp only [Act.put, List.setIfInBounds_toArray, List.set_cons_zero, List.set_cons_succ]
          refine takeD (i := 2) (d := some 27) (v := ?_) _ rfl rfl (by kernel_rfl) (by kernel_rfl) (by kernel_rfl) (fun _ _ _ h => h) (by rfl) ?_ (by assumption) ?_
          rotate_left
          · (intro w hSw; (try dsimp only at hSw); go_simp) <;> with_reducible rfl
          try simp only [Act.put, List.setIfInBounds_toArray, List.set_cons_zero, List.set_cons_succ]
          refine takeD (i := 3) (d := some 28) (v := ?_) _ rfl rfl (by kernel_rfl) (by kernel_rfl) (by kernel_rfl) (fun _ _ _ h => h) (by rfl) ?_ (by assumption) ?_
          rotate_left
          · (intro w hSw; (try dsimp only at hSw); go_simp) <;> with_reducible rfl
          try simp only [Act.put, List.setIfInBounds_toArray, List.set_cons_zero, List.set_cons_succ]
          refine takeD (i := 4) (d := some 29) (v := ?_) _ rfl rfl (by kernel_rfl) (by kernel_rfl) (by kernel_rfl) (fun _ _ _ h => h) (by rfl) ?_ (by assumption) ?_
          rotate_left
          · (intro w hSw; (try dsimp only at hSw); go_simp) <;> with_reducible rfl
          try simp only [Act.put, List.setIfInBounds_toArray, List.set_cons_zero, List.set_cons_succ]
          refine takeD (i := 5) (d := some 30) (v := ?_) _ rfl rfl (by kernel_rfl) (by kernel_rfl) (by kernel_rfl) (fun _ _ _ h => h) (by rfl) ?_ (by assumption) ?_
          rotate_left
          · (intro w hSw; (try dsimp only at hSw); go_simp) <;> with_reducible rfl
          try simp only [Act.put, List.setIfInBounds_toArray, List.set_cons_zero, List.set_cons_succ]
          refine takeD (i := 6) (d := some 31) (v := ?_) _ rfl rfl (by kernel_rfl) (by kernel_rfl) (by kernel_rfl) (fun _ _ _ h => h) (by rfl) ?_ (by assumption) ?_
          rotate_left
          · (intro w hSw; (try dsimp only at hSw); go_simp) <;> with_reducible rfl
          try simp only [Act.put, List.setIfInBounds_toArray, List.set_cons_zero, List.set_cons_succ]
          refine takeD (i := 7) (d := some 32) (v := ?_) _ rfl rfl (by kernel_rfl) (by kernel_rfl) (by kernel_rfl) (fun _ _ _ h => h) (by rfl) ?_ (by assumption) ?_
          rotate_left
          · (intro w hSw; (try dsimp only at hSw); go_simp) <;> with_reducible rfl
          try simp only [Act.put, List.setIfInBounds_toArray, List.set_cons_zero, List.set_cons_succ]
          refine takeD (i := 8) (d := some 33) (v := ?_) _ rfl rfl (by kernel_rfl) (by kernel_rfl) (by kernel_rfl) (fun _ _ _ h => h) (by rfl) ?_ (by assumption) ?_
          rotate_left
          · (intro w hSw; (try dsimp only at hSw); go_simp) <;> with_reducible rfl
          try simp only [Act.put, List.setIfInBounds_toArray, List.set_cons_zero, List.set_cons_succ]
          refine takeD (i := 9) (d := some 34) (v := .slice (some ⟨rb, sn, none⟩) xn (cap - sn)) _ rfl rfl (by kernel_rfl) (by kernel_rfl) (by kernel_rfl) (fun _ _ _ h => h) (by rfl) ?_ (by assumption) ?_
          · intro w hSw; (try dsimp only at hSw); go_simp; rw [if_pos ⟨by omega, by omega⟩, if_pos (by omega), show ((sn : Int) + (xn : Int)).toNat - sn = xn by omega]
          try simp only [Act.put, List.setIfInBounds_toArray, List.set_cons_zero, List.set_cons_succ]
          refine wpAnyH_ready (rs := [10]) (by kernel_rfl) (by simp) ?_
          refine AllReadyH.cons rfl (fun K hK => ?_) AllReadyH.nil
          refine wp_clear_run _ (.tmp 34) 40 rfl _ rfl (HCL.out _ _) ?_
          refine hK.out _ _ ?_ (fun hHeld => ?_)
          · exact ⟨hHeld.1.setRow _, (cell_setRow_other _ _ _ _ HPN.out).trans hHeld.2.1, (cell_setRow_other _ _ _ _ HNE.out).trans hHeld.2.2⟩
          clear hK K
          try simp only [Act.put, List.setIfInBounds_toArray, List.set_cons_zero, List.set_cons_succ]
          refine wpAnyH_done (by kernel_rfl) ?_ _
          have HB2 := Lib.hid hHeld.1
          have y1 := hHeld.2.2
          replace Q3 : Hid (SP lo hi (W1.drew.setRow rb _) p rb l _) := Q3
          generalize W1.drew.setRow rb _ = W4 at Q3 HB2 y1 ⊢
          clear hHeld HCL HX1 HJ1 d0 d1 d2 d3 d4
          go_wp2_with fail
          go_roundw
          case rel =>
            have Q : FrRel true lo hi p rb n l LL w (.int .i64 ((sn : Int) + (xn : Int))) (.int .i64 ((k : Int) + 1)) W4 := ⟨⟨k + 1, HX.out, by go_num, by rw [HSUM.out], Q3.out, HB2.out⟩⟩
            first | exact Q | ((repeat apply Exists.intro); exact ⟨Q, rfl⟩)
          case measure => have := HX.out; simp [intOf]; omega
        | true =>
          have hnx : frS true l LL (k + 1) = frS true l LL k := by rw [HFS.out, if_pos ⟨rfl, rfl⟩]
          go_wp2_with fail
          try simp only [HW1.out]
          go_roundw
          case rel =>
            have Q : FrRel true lo hi p rb n l LL w (.int .i64 ((sn : Int) + (xn : Int))) (.int .i64 ((k : Int) + 1)) W1 := ⟨⟨k + 1, HX.out, by go_num, by rw [HSUM.out], by rw [hnx]; exact HQ1.out, HB1.out⟩⟩
            first | exact Q | ((repeat apply Exists.intro); exact ⟨Q, rfl⟩)
          case measure => have := HX.out; simp [intOf]; omega
    · have hkn : k = n := by have := HK.out; omega
      clear hlt
      subst hkn
      go_wp2_with fail
      go_end0
      exact ⟨rfl, HQ.out, HB.out⟩
end Go.Proofs.Ytliggejkpmlgfaa
