/-
  The contracts of the reference's Var, Text and Word: they give the bytes that the program's own functions put. Each statement bears its own conditions.
-/
import Derived.Test.YthcegmijphbhgaaDoorSum
namespace Go.Proofs.YthcegmijphbhgaaDoor
open Go.RowKit
set_option linter.unusedSimpArgs false
set_option linter.unusedVariables false

section
variable {P : Program} (w : World)
/-- The append of the guide's words, where the operation bears a guard that holds. -/
theorem wpList_append_anyG {ops : Array Oper} {rest : List Oper} {o : Oper} {a : Act} {Q : Exit → Act → World → Prop} (hw : Region.wanted o (yielded ops a.tmps) = true) (s x : Operand) (t : TypeId)
    (ho : o.op = .call { callee := .builtin .append, args := #[s, x], argTypes := #[t, t] })
    (base : Nat) (e : TypeId) (i : TypeInfo) (z : Value) (size bytes : Nat) (ht : P.underlying t = some (.slice e)) (hi : P.info? e = some i) (hz : i.zero = some z)
    (hsize : i.size = size) (hby : i.bytes = bytes) (hzs : z.cells.size = size) (hsz : 0 < size)
    (v : Value) (n : Nat) (xs : List Value) (hs : a.eval s = v) (hown : w.ownsRow base e size v n xs)
    (B : Nat) (A : Option Addr) (m c : Nat) (news : List Value) (hx : a.eval x = .slice A m c) (hr : Reads w B size A m news) (h1 : ∀ u ∈ news, u.oneCell' = true)
    (h63 : n + m ≤ maxLen) (hbytes : (n + m) * bytes ≤ 140737488355328) (hbase : base ≤ w.heap.size)
    (h : ∀ v' w', w'.ownsRow base e size v' (n + m) (xs ++ news) → w.grownBy w' v.ownBlock → (v'.ownBlock = v.ownBlock ∨ v'.ownBlock = some w.heap.size) → wpList P ops Q rest (a.put o.dst v') w') : wpList P ops Q (o :: rest) a w := by
  unfold wpList
  rw [if_pos hw]
  exact .inl (wp_append_any w s x t ho base e i z size bytes ht hi hz hsize hby hzs hsz v n xs hs hown B A m c news hx hr h1 h63 hbytes hbase fun v' w' h2 h3 h4 => h v' w' h2 h3 h4)
end

/-- A new block as a row of the call's own. -/
theorem own_new (B : Nat) (w : World) (vs : List Value) (hB : B ≤ w.heap.size) (hl : vs.length ≤ 1000) : (w.alloc (.cells vs.toArray 5)).ownsRow B 5 1 (.slice (some ⟨w.heap.size, 0, none⟩) vs.length vs.length) vs.length vs :=
  ⟨by simp, .inr ⟨w.heap.size, vs.length, vs.toArray, rfl, hB, heap_alloc_new w _, Nat.le_refl _, by unfold maxLen; omega, by simp, by simp⟩⟩

/-- The bytes ahead of the last one, till nothing is left. -/
def restB (q : Nat) : List Int := if h : q = 0 then [] else restB (q / 128) ++ [((128 + q % 128 : Nat) : Int)]
termination_by q
decreasing_by omega
theorem restB_zero : restB 0 = [] := by unfold restB; simp
theorem restB_pos {q : Nat} (h : q ≠ 0) : restB q = restB (q / 128) ++ [((128 + q % 128 : Nat) : Int)] := by rw [restB, dif_neg h]
theorem restB_hiB (D : Nat) : ∀ q, q < 128 ^ D → (D = 0 ∨ 128 ^ (D - 1) ≤ q) → restB q = hiB D q := by
  induction D with
  | zero => intro q h _; obtain rfl : q = 0 := by simpa using h
            rw [restB_zero]; rfl
  | succ D ih =>
    intro q h1 h2
    have p : 0 < 128 ^ D := Nat.pow_pos (by omega)
    have h3 : 128 ^ D ≤ q := by rcases h2 with h2 | h2
                                · omega
                                · simpa using h2
    rw [restB_pos (by omega), hiB]
    congr 1
    refine ih _ ?_ ?_
    · rw [Nat.div_lt_iff_lt_mul (by omega), ← Nat.pow_succ]; exact h1
    · rcases Nat.eq_zero_or_pos D with hD | hD
      · exact .inl hD
      · right
        rw [Nat.le_div_iff_mul_le (by omega), ← Nat.pow_succ, show (D - 1).succ = D by omega]
        exact h3
theorem varB_rest (m : Nat) (hm : m < 18446744073709551616) : restB (m / 128) ++ [((m % 128 : Nat) : Int)] = varB m := by
  unfold varB
  congr 1
  have h1 : m ||| 1 < 2 ^ 64 := Nat.or_lt_two_pow (n := 64) hm (by omega)
  have hr : 1 ≤ m ||| 1 := Nat.right_le_or
  have hle : m ≤ m ||| 1 := Nat.left_le_or
  obtain ⟨b1, b2, b3⟩ := Lib.bitLenAux_bounds 64 _ h1 (by omega)
  have b4 := (bitLen_or m hm).2
  change 1 ≤ Lib.bitLen (m ||| 1) at b1
  change 2 ^ (Lib.bitLen (m ||| 1) - 1) ≤ m ||| 1 at b2
  change m ||| 1 < 2 ^ Lib.bitLen (m ||| 1) at b3
  obtain ⟨L, hL⟩ : ∃ L, Lib.bitLen (m ||| 1) = L := ⟨_, rfl⟩
  rw [hL] at b1 b2 b3 b4 ⊢
  have hdiv : (m ||| 1) / 2 = m / 2 := by rw [Nat.or_div_two]; simp
  refine restB_hiB _ _ ?_ ?_
  · rw [Nat.div_lt_iff_lt_mul (by omega), ← Nat.pow_succ]
    have e : (128 : Nat) ^ ((L - 1) / 7 + 1) = 2 ^ (7 * ((L - 1) / 7 + 1)) := by rw [Nat.pow_mul]
    rw [e]
    exact Nat.lt_of_le_of_lt hle (Nat.lt_of_lt_of_le b3 (Nat.pow_le_pow_right (by omega) (by omega)))
  · rcases Nat.eq_zero_or_pos ((L - 1) / 7) with h0 | h0
    · exact .inl h0
    · right
      have e : (128 : Nat) ^ ((L - 1) / 7) = 2 ^ (7 * ((L - 1) / 7)) := by rw [Nat.pow_mul]
      have h2 : (128 : Nat) ^ ((L - 1) / 7) ≤ m ||| 1 := by rw [e]; exact Nat.le_trans (Nat.pow_le_pow_right (by omega) (by omega)) b2
      rw [Nat.le_div_iff_mul_le (by omega), ← Nat.pow_succ, show ((L - 1) / 7 - 1).succ = (L - 1) / 7 by omega]
      obtain ⟨q, hq⟩ : ∃ q, (128 : Nat) ^ ((L - 1) / 7) = 2 * q := ⟨64 * 128 ^ ((L - 1) / 7 - 1), by
        conv => lhs; rw [show (L - 1) / 7 = (L - 1) / 7 - 1 + 1 by omega, Nat.pow_succ]
        omega⟩
      rw [hq] at h2 ⊢
      omega

theorem u64_in {n : Int} (h : 0 ≤ n) (h' : n < 144115188075855872) : IntKind.u64.wrap n = n := by rw [IntKind.wrap_u64]; omega

/-- The loop's relation of Var. -/
def RVarRel (m : Nat) (W : World) (n v : Value) (wr : World) : Prop :=
  ∃ (q k : Nat) (A : Option Addr) (c : Nat) (l : List Int), n = .int .u64 (q : Int) ∧ v = .slice A k c ∧ wr.ownsRow W.heap.size 5 1 (.slice A k c) k (U l) ∧ Below W.heap.size W wr ∧ Hid (restB q ++ l = varB m) ∧ k ≤ 10 ∧ q < 144115188075855872

theorem rvar_any (m : Nat) (w : World) (hm : m < 18446744073709551616) :
    Calls Tryd.prog 15 #[.int .u64 (m : Int)] w (Own w.heap.size w (varB m).length (varB m)) := by
  obtain ⟨i0, hi, hz0, hz1, hz2⟩ := info_parts byte_info
  have vl := varB_len m hm
  have vr := varB_rest m hm
  have e0 : (m : Int) / 128 = ((m / 128 : Nat) : Int) := by omega
  have e1 : (m : Int) % 128 = ((m % 128 : Nat) : Int) := by omega
  have lt1 : m / 128 < 144115188075855872 := by omega
  have lt2 : ((m % 128 : Nat) : Int) < 256 := by omega
  obtain ⟨q0, hq0⟩ : ∃ q0, Hid (m / 128 = q0) := ⟨_, rfl⟩
  obtain ⟨r0, hr0⟩ : ∃ r0 : Int, Hid (((m % 128 : Nat) : Int) = r0) := ⟨_, rfl⟩
  rw [hq0.out] at vr e0 lt1
  rw [hr0.out] at vr e1 lt2
  have r00 : 0 ≤ r0 := by have := hr0.out; omega
  have VR := Lib.hid vr
  have VL := Lib.hid vl
  have LT := Lib.hid lt1
  have lt3 : IntKind.u64.wrap (q0 : Int) = q0 := u64_in (by omega) (by omega)
  clear vr vl lt1 hm
  go_enter Tryd.func15, Tryd.ntmps15
  go_wp2_with fail
  clear e0 e1
  go_loopw [0, 3] (fun n v wr => RVarRel m w n v wr) (fun n _ _ => (intOf n).toNat)
  case atStart => exact ⟨q0, 1, _, 1, [r0], rfl, rfl, own_new w.heap.size w (U [r0]) (Nat.le_refl _) (by simp), (Below.refl _ _).alloc (Nat.le_refl _) _, VR.out, by omega, LT.out⟩
  case round =>
    obtain ⟨q, k, A, c, l, rfl, rfl, hown, hbel, hE, hk, hq⟩ := hrel
    have HQ := Lib.hid hq
    clear hq
    by_cases h0 : q = 0
    · subst h0
      have hE' : l = varB m := by have := hE.out; rw [restB_zero] at this; simpa using this
      have hlen : k = (varB m).length := by rw [← hE']; have := hown.1; simpa using this.symm
      subst hE'
      subst hlen
      go_wp2_with fail
      go_ret
      exact ⟨A, c, rfl, hown, hbel⟩
    · have q0' : (0 : Int) < (q : Int) := by omega
      have f0 : (q : Int) / 128 = ((q / 128 : Nat) : Int) := by omega
      have f1 : (q : Int) % 128 = ((q % 128 : Nat) : Int) := by omega
      obtain ⟨rr, hrr⟩ : ∃ rr : Int, Hid (((q % 128 : Nat) : Int) = rr) := ⟨_, rfl⟩
      rw [hrr.out] at f1
      have rr0 : 0 ≤ rr := by have := hrr.out; omega
      have rr1 : rr < 128 := by have := hrr.out; omega
      obtain ⟨q1, hq1⟩ : ∃ q1, Hid (q / 128 = q1) := ⟨_, rfl⟩
      rw [hq1.out] at f0
      have hE2 : Hid (restB q1 ++ ((128 + rr) :: l) = varB m) := by
        have := hE.out
        rw [restB_pos h0, hq1.out] at this
        unfold Hid
        rw [← this, ← hrr.out]
        simp
      have hk2 : k + 1 ≤ 10 := by
        have h1 := hE2.out
        have h2 := congrArg List.length h1
        have h3 : l.length = k := by have := hown.1; simpa using this
        have := VL.out
        simp at h2
        omega
      have hq2 : q1 < 144115188075855872 := by have := HQ.out; have := hq1.out; omega
      have hq3 : q1 < q := by have := hq1.out; omega
      have HQ2 := Lib.hid hq2
      have lq1 : IntKind.u64.wrap (q1 : Int) = q1 := by have := HQ2.out; exact u64_in (by omega) (by omega)
      clear hq2 h0
      go_wp2_with (at_builtin; refine wpList_append_any _ rfl (.tmp 16) (.tmp 17) _ rfl w.heap.size 5 i0 _ 1 1 Tryd.underlying22 hi hz0 hz1 hz2 rfl (by omega) (.slice (some ⟨wr.heap.size, 0, none⟩) 1 1) 1 (U [128 + rr]) rfl (own_new w.heap.size wr (U [128 + rr]) hbel.size (by simp)) (wr.heap.size + 1) A k c (U l) rfl ((Reads.of_own (hown.alloc _)).more (by simp)) (U_one _) ?c2 ?c3 ?c4 ?_)
      case c2 => unfold maxLen; omega
      case c3 => omega
      case c4 => have := hbel.size; simp; omega
      intro v1 w3 hown1 hg1 _
      have hown1' : w3.ownsRow w.heap.size 5 1 v1 (k + 1) (U ((128 + rr) :: l)) := by rw [Nat.add_comm]; simpa using hown1
      obtain ⟨A1, c1, hv, ho1, hb1⟩ := own_of (own_new w.heap.size wr (U [128 + rr]) hbel.size (by simp)) (hbel.alloc hbel.size _) (by have := hbel.size; simp; omega) hown1' hg1
      rw [hv]
      clear hv hown1 hown1' hg1
      go_wp2_with fail
      go_roundw
      case rel => first | exact ⟨q1, k + 1, A1, c1, (128 + rr) :: l, rfl, rfl, ho1, hb1, hE2, hk2, HQ2.out⟩ | ((repeat apply Exists.intro); exact ⟨⟨q1, k + 1, A1, c1, (128 + rr) :: l, rfl, rfl, ho1, hb1, hE2, hk2, HQ2.out⟩, rfl⟩)
      case measure => simp [intOf]; omega

theorem rword_any (x : Int) (w : World) (x0 : 0 ≤ x) (x1 : x ≤ 4294967295) :
    Calls Tryd.prog 17 #[.int .u32 x] w (Own w.heap.size w 4 (wordB x)) := by
  go_enter Tryd.func17, Tryd.ntmps17
  go_wp2_with fail
  go_ret
  exact ⟨_, _, rfl, own_new w.heap.size w (U (wordB x)) (Nat.le_refl _) (by simp [wordB]), (Below.refl _ _).alloc (Nat.le_refl _) _⟩

theorem rtext_any (s : ByteArray) (w : World) (hs : s.size ≤ 1048576) :
    Calls Tryd.prog 16 #[.string s] w (Own w.heap.size w ((varB s.size).length + s.size) (varB s.size ++ sB s)) := by
  obtain ⟨i0, hi, hz0, hz1, hz2⟩ := info_parts byte_info
  have vl := varB_len s.size (by omega)
  have RV := rvar_any s.size w (by omega)
  obtain ⟨V, hV⟩ : ∃ V, Hid (varB s.size = V) := ⟨_, rfl⟩
  rw [hV.out] at vl RV
  rw [hV.out]
  have RVH := Lib.hid RV
  clear RV hV
  go_enter Tryd.func16, Tryd.ntmps16
  go_wp2_with fail
  refine RVH.out.mono ?_
  rintro e w1 ⟨A1, c1, rfl, ho, hb⟩
  go_wp2_with (at_builtin; refine Lib.wpList_append_own_string _ rfl (.tmp 6) (.tmp 7) _ _ rfl w.heap.size 5 i0 Tryd.underlying22 Tryd.underlying9 hi hz0 hz1 hz2 (.slice A1 V.length c1) V.length (U V) rfl ho s rfl ?c2 ?c3 ?c4 ?_)
  case c2 => unfold maxLen; omega
  case c3 => omega
  case c4 => exact hb.size
  intro v1 w3 hown1 hg1 _
  have hown1' : w3.ownsRow w.heap.size 5 1 v1 (V.length + s.size) (U (V ++ sB s)) := by
    rw [sB_cells] at hown1; simpa using hown1
  obtain ⟨A3, c3, hv, ho3, hb4⟩ := own_of ho hb hb.size hown1' hg1
  rw [hv]
  clear hv hown1 hown1' hg1
  go_wp2_with fail
  go_ret
  exact ⟨A3, c3, rfl, ho3, hb4⟩

/-- What the walk is told of a slice of bytes that came in. -/
def IsRow (k : IntKind) (w : World) (a : Option Addr) (len cap : Nat) (zs : List Int) : Prop :=
  (a = none ∧ len = 0 ∧ cap = 0 ∧ zs = []) ∨
  ∃ x, a = some x ∧ len ≤ cap ∧ cap ≤ maxLen ∧ zs.length = cap ∧ (∀ i, i < zs.length → w.cell? (x.add i) = some (.int k (zs.getD i 0))) ∧ ∀ n ∈ zs, (Lit.int k n).wf = true
theorem reads_row {w : World} {a : Option Addr} {len cap : Nat} {zs : List Int} (h : IsRow .u8 w a len cap zs) (k : Nat) (hk : k ≤ len) : Reads w w.heap.size 1 a k (U (zs.take k)) ∧ Bytes (zs.take k) ∧ (zs.take k).length = k ∧ len ≤ cap ∧ cap ≤ maxLen := by
  rcases h with ⟨rfl, rfl, rfl, rfl⟩ | ⟨x, rfl, h1, h2, h3, h4, h5⟩
  · obtain rfl : k = 0 := by omega
    exact ⟨Reads.none_, fun i hi => by simp at hi, rfl, Nat.le_refl _, by unfold maxLen; omega⟩
  · have hl : (zs.take k).length = k := by rw [List.length_take]; omega
    refine ⟨⟨by simp; omega, fun hn => ⟨x, rfl, ?_, fun j u hu => ?_⟩⟩, fun i hi => ?_, hl, h1, h2⟩
    · have := World.block_lt_of_cell? _ _ (h4 0 (by omega))
      rwa [block_of_add] at this
    · have hj : j < k := by have := (List.getElem?_eq_some_iff.1 hu).1; simp at this; omega
      have e := h4 j (by omega)
      have e2 : u = .int .u8 (zs.getD j 0) := by
        have : (U (zs.take k))[j]? = some (.int .u8 (zs.getD j 0)) := by simp [List.getD_eq_getElem?_getD, List.getElem?_take, hj, List.getElem?_eq_getElem (show j < zs.length by omega)]
        rw [this] at hu; exact (Option.some.inj hu).symm
      rw [e2]; exact e
    · have hi' : i < k := by rwa [hl] at hi
      have e : (zs.take k).getD i 0 = zs[i]'(by omega) := by simp [List.getD_eq_getElem?_getD, List.getElem?_take, hi', List.getElem?_eq_getElem (show i < zs.length by omega)]
      rw [e]
      exact bounds_u8 (h5 _ (List.getElem_mem _))
end Go.Proofs.YthcegmijphbhgaaDoor
