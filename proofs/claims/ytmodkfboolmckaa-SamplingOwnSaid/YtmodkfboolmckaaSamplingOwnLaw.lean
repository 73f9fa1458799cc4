/-
  SamplingOwn's walk. Each statement bears its own conditions.
-/
import Derived.Test.YtmodkfboolmckaaSaT
namespace Go.Proofs.Ytmodkfboolmckaa.Sa
open Go.RowKit Go.Proofs.Ytmodkfboolmckaa.F Go.Proofs.Ytmodkfboolmckaa.U
set_option linter.unusedVariables false
set_option linter.unusedSimpArgs false
theorem one_own (w : World) (z : Int) : (w.alloc (.cells #[.int .u32 z] 55)).ownsRow w.heap.size 55 1 (.slice (some ⟨w.heap.size, 0, none⟩) 1 1) 1 [.int .u32 z] :=
  ⟨rfl, .inr ⟨w.heap.size, 1, #[.int .u32 z], rfl, Nat.le_refl _, heap_alloc_new w _, Nat.le_refl _, by unfold maxLen; omega, rfl, rfl⟩⟩
theorem own_at {w : World} {p : Nat → Prop} {v : Value} {n : Nat} {xs : List Value} (h : Ow 55 w p v n xs) (hn : 0 < n) : ∃ o c cur, v = .slice (some ⟨o, 0, none⟩) n c ∧ p o ∧ o < w.heap.size ∧ w.heap[o]? = some (.cells cur 55 (0, 0)) ∧ cur[0]? = xs[0]? := by
  rcases h.form with ⟨_, h0, _⟩ | ⟨b, cap, cur, hv, hp, hb, hg, h1, h2, h3, h4⟩
  · omega
  · refine ⟨b, cap, cur, hv, hp, hb, hg, ?_⟩
    rw [← h4, List.getElem?_take_of_lt hn, Array.getElem?_toList]
set_option maxRecDepth 100000 in
set_option maxHeartbeats 16000000 in
theorem own_walk (a : Option Addr) (len cap : Nat) (zs : List Int) (by_ : Int) (w : World) (h0 : IsRow .u32 w a len cap zs) : Calls Try.prog 7 #[.slice a len cap, .int .u32 by_] w fun e w' => e = .returned (.bool true) ∧ Below w.heap.size w w' := by
  have hcp := h0.le.1
  have he := he_sa
  obtain ⟨i0, hi, hz0, hz1, hz2⟩ := info_of u32_info
  obtain ⟨lo, hlo⟩ : ∃ lo, w.heap.size = lo := ⟨_, rfl⟩
  obtain ⟨j, hj⟩ : ∃ j, min len 31 = j := ⟨_, rfl⟩
  have hm : min (len : Int) 31 = (j : Int) := by omega
  have h1 : (j : Int) ≤ (cap : Int) := by omega
  have h2 : (0 : Int) ≤ (j : Int) := by omega
  have h3 : j ≤ cap := by omega
  have hsq := Sq_take (j := j) h0.sq (by omega)
  obtain ⟨K, hK⟩ : ∃ K, (zs.take len).take j = K := ⟨_, rfl⟩
  rw [← List.map_take, hK] at hsq
  have HSQ : Hid (Sq w (fun b => b < lo) (.slice a j cap) j (CU K)) := by rw [← hlo]; exact hsq
  have HJ : Hid (j ≤ 31 ∧ K.length = j) := by
    refine ⟨by omega, ?_⟩
    have := hsq.len
    simpa using this
  have HLO : Hid (lo ≤ w.heap.size ∧ w.heap.size ≤ lo) := by unfold Hid; omega
  have RD : Hid (Reads w w.heap.size 1 a j (CU K)) := (HSQ.out.st.reads).2
  obtain ⟨KK, hKK⟩ : ∃ KK, (1 : Int) :: K = KK := ⟨_, rfl⟩
  have HKK : Hid (KK.length = 1 + j ∧ KK.length ≤ 32 ∧ CU KK = .int .u32 1 :: CU K) := by
    rw [← hKK]; exact ⟨by simp [HJ.out.2]; omega, by have := HJ.out; simp; omega, rfl⟩
  have hone := one_own w 1
  rw [hlo] at hone
  have HONE := Lib.hid hone
  obtain ⟨n1, hn1⟩ : ∃ n1, 1 + j = n1 := ⟨_, rfl⟩
  have HN1 : Hid (1 + j = n1 ∧ n1 ≤ 32 ∧ KK.length = n1) := ⟨hn1, by have := HJ.out; omega, by have := HKK.out; omega⟩
  have hpos : (0 : Int) < (n1 : Int) := by omega
  clear h0 hj hK hsq hcp hone hKK
  rw [hlo]
  go_enter Try.func7, Try.ntmps7
  go_wp2_with (at_builtin; refine wpList_append_any _ rfl (.tmp 15) (.tmp 20) _ rfl lo 55 i0 _ 1 4 Try.underlying24 hi hz0 hz1 hz2 rfl (by omega) (.slice (some ⟨lo, 0, none⟩) 1 1) 1 [.int .u32 1] rfl HONE.out w.heap.size a j cap (CU K) rfl (RD.out.alloc (Nat.le_refl _) _) (CU_one _) ?c2 ?c3 ?c4 ?_)
  case c2 => have := HJ.out; unfold maxLen; omega
  case c3 => have := HJ.out; omega
  case c4 => have := HLO.out; simp; omega
  intro v1 w1 ho1 hg1 hb1
  have O1 : Hid (Ow 55 w1 (fun b => lo ≤ b) v1 n1 (CU KK)) := by
    have h5 : w1.ownsRow lo 55 1 v1 n1 (CU KK) := by rw [HKK.out.2.2]; simpa using ho1
    exact Ow.of_own h5
  have B1 : Hid (Below lo w w1) := ((Below.refl _ _).alloc (by have := HLO.out; omega) _).grown hg1 (by have := HLO.out; simp; omega) (fun q hq => by have h' : some lo = some q := hq; injection h' with h'; omega)
  obtain ⟨A1, c1, rfl⟩ := O1.out.sl
  have RD1 : Hid (Reads w1 w1.heap.size 1 A1 n1 (CU KK)) := (O1.out.sq.st.reads).2
  have HZ1 := Lib.hid (rowU_new w1)
  clear ho1 hg1 hb1 HONE RD
  go_wp2_with (at_builtin; refine wpList_append_any _ rfl (.tmp 22) (.tmp 23) _ rfl w1.heap.size 55 i0 _ 1 4 Try.underlying24 hi hz0 hz1 hz2 rfl (by omega) (.slice (some ⟨w1.heap.size, 0, none⟩) 0 0) 0 [] rfl HZ1.out w1.heap.size A1 n1 c1 (CU KK) rfl (RD1.out.alloc (Nat.le_refl _) _) (CU_one _) ?d2 ?d3 ?d4 ?_)
  case d2 => have := HN1.out; unfold maxLen; omega
  case d3 => have := HN1.out; omega
  case d4 => simp
  intro v2 w2 ho2 hg2 hb2
  have h5 : w2.ownsRow w1.heap.size 55 1 v2 n1 (CU KK) := by simpa using ho2
  have b2 : Below w1.heap.size w1 w2 := ((Below.refl _ _).alloc (Nat.le_refl _) _).grown hg2 (by simp) (fun q hq => by have h' : some w1.heap.size = some q := hq; injection h' with h'; omega)
  have HS1 : Hid (lo ≤ w1.heap.size) := by have := B1.out.size; have := HLO.out; unfold Hid; omega
  have W2 := Lib.hid (Ow.of_own h5)
  obtain ⟨A2, c2, rfl⟩ := W2.out.sl
  have O2 : Hid (Ow 55 w2 (fun b => lo ≤ b ∧ b < w1.heap.size) (.slice A1 n1 c1) n1 (CU KK)) := ⟨(O1.out.below b2).own, fun b hb => ⟨⟨(O1.out.at_ b hb).1, (O1.out.at_ b hb).2⟩, ((O1.out.below b2).at_ b hb).2⟩⟩
  have B2 : Hid (Below lo w w2) := B1.out.trans (b2.mono HS1.out)
  clear ho2 hg2 hb2 h5 b2 O1 B1 RD1 HZ1
  go_wp2_with fail
  refine (new_any 32 1 w2 (by omega) (by omega) (by omega) (by omega)).mono ?_
  rintro e w3 ⟨rfl, q3, b3⟩
  obtain ⟨g, hg⟩ : ∃ g, w2.heap.size = g := ⟨_, rfl⟩
  have HG : Hid (w1.heap.size ≤ g ∧ lo ≤ g) := by unfold Hid; have := B2.out.size; have := HLO.out; have := (W2.out.form); refine ⟨?_, by omega⟩; rcases this with ⟨h, _⟩ | ⟨b, _, _, _, h, h', _⟩ <;> first | omega | (have := HN1.out; injection h with _ h; omega)
  rw [hg] at q3 b3
  have O3 := Lib.hid (O2.out.below (by rw [hg]; exact b3))
  have W3 : Hid (Ow 55 w3 (fun b => w1.heap.size ≤ b ∧ b < g) (.slice A2 n1 c2) n1 (CU KK)) := ⟨(W2.out.below (by rw [hg]; exact b3)).own, fun b hb => ⟨⟨(W2.out.at_ b hb).1, by have := (W2.out.at_ b hb).2; omega⟩, ((W2.out.below (by rw [hg]; exact b3)).at_ b hb).2⟩⟩
  have Q3 := Lib.hid (q3.less HG.out.2)
  have B3 : Hid (Below lo w w3) := B2.out.trans (b3.mono HG.out.2)
  simp only [hg]
  clear q3 b3 hg O2 W2 B2
  go_wp2_with fail
  refine (told_any w3).mono ?_
  rintro e w4 ⟨rfl, b4⟩
  have Q4 := Lib.hid (Q3.out.below b4)
  have O4 := Lib.hid (O3.out.below b4)
  have W4 := Lib.hid (W3.out.below b4)
  have B4 : Hid (Below lo w w4) := B3.out.trans (b4.mono Q3.out.nil)
  clear b4 Q3 O3 W3 B3
  go_wp2_with fail
  have ho : Sq w4 (fun b => lo ≤ b ∧ b < w1.heap.size) (.slice A1 n1 c1) KK.length (CU KK) := by rw [HN1.out.2.2]; exact O4.out.sq
  have WR := write_any lo _ g 32 1 false [] 0 _ _ KK 1 w4 Q4.out ⟨by omega, by omega⟩ ho (by have := HKK.out; omega)
  refine WR.mono ?_
  rintro e w5 ⟨q, rfl, q5, n5⟩
  have Q5 := Lib.hid q5
  have HQ : Hid (∀ b, q b → b = g ∨ w4.heap.size ≤ b) := fun b hb => n5.sub b hb
  have O5 : Hid (Ow 55 w5 (fun b => (lo ≤ b ∧ b < w1.heap.size) ∧ ¬ q b) (.slice A1 n1 c1) n1 (CU KK)) := (((O4.out.imp (q := fun b => (lo ≤ b ∧ b < w1.heap.size) ∧ ¬ b = g) fun b _ hb => ⟨hb, by have := HG.out; omega⟩)).nx n5)
  have W5 : Hid (Ow 55 w5 (fun b => (w1.heap.size ≤ b ∧ b < g) ∧ ¬ q b) (.slice A2 n1 c2) n1 (CU KK)) := (((W4.out.imp (q := fun b => (w1.heap.size ≤ b ∧ b < g) ∧ ¬ b = g) fun b _ hb => ⟨hb, by omega⟩)).nx n5)
  have B5 : Hid (Below lo w w5) := B4.out.trans (Q4.out.nx n5)
  clear q5 n5 Q4 O4 W4 B4 ho WR
  go_wp2_with fail
  have RW := rwords_any w5.heap.size w5.heap.size (.slice A1 n1 c1) (.slice A2 n1 c2) KK KK w5 (by rw [HN1.out.2.2]; exact O5.out.sq.st) (by rw [HN1.out.2.2]; exact W5.out.sq.st) (by have := HKK.out; omega)
  refine RW.mono ?_
  rintro e w6 ⟨he_, b6⟩
  rw [decide_eq_true rfl] at he_
  subst he_
  have Q6 := Lib.hid (Q5.out.below b6)
  have O6 := Lib.hid (O5.out.below b6)
  have W6 := Lib.hid (W5.out.below b6)
  have B6 : Hid (Below lo w w6) := B5.out.trans (b6.mono Q5.out.nil)
  clear b6 Q5 O5 W5 B5 RW
  obtain ⟨o, oc, ocur, hov, hop, holt, hog, ho0⟩ := own_at O6.out (by have := HN1.out; omega)
  injection hov with hov _ hoc
  subst hov
  have d0 : w6.cell? ⟨o, 0, none⟩ = some (.int .u32 1) := by rw [(row_cell hog 0).1, ho0, HKK.out.2.2]; rfl
  have f0 : w6.frozen? ⟨o, 0, none⟩ = false := (row_cell hog 0).2
  have hff : Fo (fun b => b = o) w6 (w6.setCell ⟨o, 0, none⟩ (.int .u32 (IntKind.u32.wrap (1 + by_)))) := (Fo.refl (fun b => b = o) w6).setCell (.inl rfl) 0 _
  have Q7 : Hid (PV lo (w6.setCell ⟨o, 0, none⟩ (.int .u32 (IntKind.u32.wrap (1 + by_)))) q g 32 1 true KK 1) := Q6.out.fo hff (fun b hb e => hop.2 (by rw [← e]; exact hb))
  have W7 : Hid (Ow 55 (w6.setCell ⟨o, 0, none⟩ (.int .u32 (IntKind.u32.wrap (1 + by_)))) (fun b => (w1.heap.size ≤ b ∧ b < g) ∧ ¬ q b) (.slice A2 n1 c2) n1 (CU KK)) := W6.out.fo hff (fun b hb e => by have := hop.1.2; have := hb.1.1; omega)
  have B7 : Hid (Below lo w (w6.setCell ⟨o, 0, none⟩ (.int .u32 (IntKind.u32.wrap (1 + by_))))) := B6.out.setCell hop.1.1 _
  clear hff Q6 W6 B6 O6 hop holt hog ho0
  go_wp2_with fail
  refine (read_any lo q g 32 1 true KK 1 1 _ Q7.out ⟨by omega, by omega⟩ rfl).mono ?_
  rintro e w8 ⟨r, he_, ro, rb⟩
  rw [show decide ((1 : Int) ≤ 1 + 1) = true from rfl] at he_
  subst he_
  rw [HN1.out.2.2] at ro
  obtain ⟨R8, e8, rfl⟩ := slice_form ro
  have Q8 := Lib.hid (Q7.out.below rb)
  have W8 := Lib.hid (W7.out.below rb)
  have P8 : Hid (Ow 55 w8 (fun b => g ≤ b ∧ ¬ q b) (.slice R8 n1 e8) n1 (CU KK)) := (Ow.of_own ro).imp fun b hb1 hb => ⟨by have := Q7.out.lt; omega, fun hq => by have := (Q7.out.low b hq).2; omega⟩
  have B8 : Hid (Below lo w w8) := B7.out.trans (rb.mono Q7.out.nil)
  clear ro rb Q7 W7 B7
  go_wp2_with fail
  have RW := rwords_any w8.heap.size w8.heap.size (.slice R8 n1 e8) (.slice A2 n1 c2) KK KK w8 (by rw [HN1.out.2.2]; exact P8.out.sq.st) (by rw [HN1.out.2.2]; exact W8.out.sq.st) (by have := HKK.out; omega)
  refine RW.mono ?_
  rintro e w9 ⟨he_, rb⟩
  rw [decide_eq_true rfl] at he_
  subst he_
  have Q9 := Lib.hid (Q8.out.below rb)
  have W9 := Lib.hid (W8.out.below rb)
  have P9 := Lib.hid (P8.out.below rb)
  have B9 : Hid (Below lo w w9) := B8.out.trans (rb.mono Q8.out.nil)
  clear rb Q8 W8 P8 B8 RW
  obtain ⟨o', oc', ocur', hov, hop, holt, hog, ho0⟩ := own_at P9.out (by have := HN1.out; omega)
  injection hov with hov _ hoc
  subst hov
  have g0 : w9.cell? ⟨o', 0, none⟩ = some (.int .u32 1) := by rw [(row_cell hog 0).1, ho0, HKK.out.2.2]; rfl
  have k0 : w9.frozen? ⟨o', 0, none⟩ = false := (row_cell hog 0).2
  have hff : Fo (fun b => b = o') w9 (w9.setCell ⟨o', 0, none⟩ (.int .u32 (IntKind.u32.wrap (1 + by_)))) := (Fo.refl (fun b => b = o') w9).setCell (.inl rfl) 0 _
  have Q10 : Hid (PV lo (w9.setCell ⟨o', 0, none⟩ (.int .u32 (IntKind.u32.wrap (1 + by_)))) q g 32 1 true KK 1) := Q9.out.fo hff (fun b hb e => hop.2 (by rw [← e]; exact hb))
  have W10 : Hid (Ow 55 (w9.setCell ⟨o', 0, none⟩ (.int .u32 (IntKind.u32.wrap (1 + by_)))) (fun b => (w1.heap.size ≤ b ∧ b < g) ∧ ¬ q b) (.slice A2 n1 c2) n1 (CU KK)) := W9.out.fo hff (fun b hb e => by have := hop.1; have := hb.1.2; omega)
  have B10 : Hid (Below lo w (w9.setCell ⟨o', 0, none⟩ (.int .u32 (IntKind.u32.wrap (1 + by_))))) := B9.out.setCell (by have h1 := hop.1; have h2 := HG.out.2; show lo ≤ o'; omega) _
  clear hff Q9 W9 B9 P9 hop holt hog ho0 d0 f0
  go_wp2_with fail
  refine (read_any lo q g 32 1 true KK 1 1 _ Q10.out ⟨by omega, by omega⟩ rfl).mono ?_
  rintro e w11 ⟨r, he_, ro, rb⟩
  rw [show decide ((1 : Int) ≤ 1 + 1) = true from rfl] at he_
  subst he_
  rw [HN1.out.2.2] at ro
  obtain ⟨R11, e11, rfl⟩ := slice_form ro
  have Q11 := Lib.hid (Q10.out.below rb)
  have W11 := Lib.hid (W10.out.below rb)
  have P11 : Hid (Ow 55 w11 (fun b => g ≤ b ∧ ¬ q b) (.slice R11 n1 e11) n1 (CU KK)) := (Ow.of_own ro).imp fun b hb1 hb => ⟨by have := Q10.out.lt; omega, fun hq => by have := (Q10.out.low b hq).2; omega⟩
  have B11 : Hid (Below lo w w11) := B10.out.trans (rb.mono Q10.out.nil)
  clear ro rb Q10 W10 B10
  go_wp2_with fail
  have RW := rwords_any w11.heap.size w11.heap.size (.slice R11 n1 e11) (.slice A2 n1 c2) KK KK w11 (by rw [HN1.out.2.2]; exact P11.out.sq.st) (by rw [HN1.out.2.2]; exact W11.out.sq.st) (by have := HKK.out; omega)
  refine RW.mono ?_
  rintro e w12 ⟨he_, rb⟩
  rw [decide_eq_true rfl] at he_
  subst he_
  have Q12 := Lib.hid (Q11.out.below rb)
  have W12 := Lib.hid (W11.out.below rb)
  have P12 := Lib.hid (P11.out.below rb)
  have B12 : Hid (Below lo w w12) := B11.out.trans (rb.mono Q11.out.nil)
  clear rb Q11 W11 P11 B11 RW
  go_wp2_with fail
  go_ret
  exact ⟨rfl, B12.out⟩
end Go.Proofs.Ytmodkfboolmckaa.Sa
