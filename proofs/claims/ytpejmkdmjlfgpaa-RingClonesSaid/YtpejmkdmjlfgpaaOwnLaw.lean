/-
  RingOwn's walk: a ring's messages stay, whatever is done with what was handed in, or answered.
-/
import Derived.Test.YtpejmkdmjlfgpaaAll
namespace Go.Proofs.Ytpejmkdmjlfgpaa
open Go.RowKit
set_option linter.unusedSimpArgs false
set_option linter.unusedVariables false
def IsRow (k : IntKind) (w : World) (a : Option Addr) (len cap : Nat) (zs : List Int) : Prop :=
  (a = none ∧ len = 0 ∧ cap = 0 ∧ zs = []) ∨
  ∃ x, a = some x ∧ len ≤ cap ∧ cap ≤ maxLen ∧ zs.length = cap ∧ (∀ i, i < zs.length → w.cell? (x.add i) = some (.int k (zs.getD i 0))) ∧ ∀ n ∈ zs, (Lit.int k n).wf = true
theorem reads_row {w : World} {a : Option Addr} {len cap : Nat} {zs : List Int} (h : IsRow .u32 w a len cap zs) (k : Nat) (hk : k ≤ len) : Reads w w.heap.size 1 a k (U (zs.take k)) ∧ (zs.take k).length = k ∧ len ≤ cap ∧ cap ≤ maxLen := by
  rcases h with ⟨rfl, rfl, rfl, rfl⟩ | ⟨x, rfl, h1, h2, h3, h4, h5⟩
  · obtain rfl : k = 0 := by omega
    exact ⟨Reads.none_, rfl, Nat.le_refl _, by unfold maxLen; omega⟩
  · have hl : (zs.take k).length = k := by rw [List.length_take]; omega
    refine ⟨⟨by simp; omega, fun hn => ⟨x, rfl, ?_, fun j u hu => ?_⟩⟩, hl, h1, h2⟩
    · have := World.block_lt_of_cell? _ _ (h4 0 (by omega))
      rwa [block_of_add] at this
    · have hj : j < k := by have := (List.getElem?_eq_some_iff.1 hu).1; simp at this; omega
      have e := h4 j (by omega)
      have e2 : u = .int .u32 (zs.getD j 0) := by
        have : (U (zs.take k))[j]? = some (.int .u32 (zs.getD j 0)) := by simp [List.getD_eq_getElem?_getD, List.getElem?_take, hj, List.getElem?_eq_getElem (show j < zs.length by omega)]
        rw [this] at hu; exact (Option.some.inj hu).symm
      rw [e2]; exact e
theorem own_past {w w' : World} {x g B n c : Nat} {xs : List Value} (h : w.ownsRow B 52 1 (.slice (some ⟨g, 0, none⟩) n c) n xs) (p : Past x w w') (hx : g ≠ x) : w'.ownsRow B 52 1 (.slice (some ⟨g, 0, none⟩) n c) n xs := by
  refine ⟨h.1, ?_⟩
  rcases h.2 with h1 | ⟨g', cap, cur, hv, hbg, hg, r⟩
  · exact .inl h1
  · refine .inr ⟨g', cap, cur, hv, hbg, ?_, r⟩
    obtain rfl : g = g' := by injection hv with h1; injection h1 with h1; injection h1
    rw [p.block g (h.lt g rfl).2 hx]; exact hg
theorem RingF.past {w w' : World} {Q : Nat → Prop} {g n m f x : Nat} {L : List (List Int)} (h : RingF w Q g n m f L) (p : Past x w w') (hg : g ≠ x) (hQ : ¬ Q x) : RingF w' Q g n m f L :=
  h.keep p.size fun k hk hq => p.block k hk (fun e => by
    subst e
    rcases hq with h1 | h1
    · exact hg h1.symm
    · exact hQ h1)
theorem own_at {w : World} {B n c : Nat} {A : Option Addr} {xs : List Value} {e : TypeId} {s : Nat} (h : w.ownsRow B e s (.slice A n c) n xs) (hn : 0 < n) : ∃ g, A = some ⟨g, 0, none⟩ ∧ B ≤ g ∧ g < w.heap.size := by
  rcases h.2 with ⟨_, h0⟩ | ⟨g, cap, cur, hv, hb, _⟩
  · omega
  · injection hv with h1
    subst h1
    exact ⟨g, rfl, hb, (h.lt g rfl).2⟩
theorem cell_first {w : World} {B g n c : Nat} {l : List Int} {x : Int} (h : w.ownsRow B 52 1 (.slice (some ⟨g, 0, none⟩) n c) n (U (x :: l))) (hn : 0 < n) : w.cell? ⟨g, 0, none⟩ = some (.int .u32 x) := by
  rw [h.cellAt 0 (by have := h.1; simp at this; omega)]; simp
/-- The state of the law behind the ring's first message. -/
structure St (w : World) (Q : Nat → Prop) (g g2 n c2 : Nat) (X : List Int) (T : Nat) (wi : World) : Prop where
  bel : Below w.heap.size w wi
  ring : RingF wi Q g 2 32 0 [X]
  was : wi.ownsRow w.heap.size 52 1 (.slice (some ⟨g2, 0, none⟩) n c2) n (U X)
  size : T ≤ wi.heap.size
theorem St.past {w wi wj : World} {Q : Nat → Prop} {g g2 n c2 : Nat} {X : List Int} {T x : Nat} (h : St w Q g g2 n c2 X T wi) (p : Past x wi wj) (h1 : g ≠ x) (h2 : g2 ≠ x) (h3 : ¬ Q x) (h4 : w.heap.size ≤ x) : St w Q g g2 n c2 X T wj :=
  ⟨h.bel.trans (p.below h4 h.bel.size), h.ring.past p h1 h3, own_past h.was p h2, Nat.le_trans h.size p.size⟩
theorem St.below {w wi wj : World} {Q : Nat → Prop} {g g2 n c2 : Nat} {X : List Int} {T : Nat} (h : St w Q g g2 n c2 X T wi) (b : Below wi.heap.size wi wj) : St w Q g g2 n c2 X T wj :=
  ⟨h.bel.trans (b.mono h.bel.size), h.ring.below b, own_below h.was b, Nat.le_trans h.size b.size⟩
theorem St.reads {w wi : World} {Q : Nat → Prop} {g g2 n c2 : Nat} {X : List Int} {T : Nat} (h : St w Q g g2 n c2 X T wi) : Reads wi wi.heap.size 1 (some ⟨g2, 0, none⟩) n (U X) := Reads.of_own h.was

set_option maxHeartbeats 4000000 in
theorem own_walk (a : Option Addr) (len cap : Nat) (zs : List Int) (by_ : Int) (w : World) (h0 : IsRow .u32 w a len cap zs) (hby : (Lit.int .u32 by_).wf = true) :
    Calls Try.prog 7 #[.slice a len cap, .int .u32 by_] w fun e w' => e = .returned (.bool true) ∧ Below w.heap.size w w' := by
  obtain ⟨i0, hi, hz0, hz1, hz2⟩ := info_parts word_info
  obtain ⟨k, hk, hk1, hk2⟩ : ∃ k : Nat, min (len : Int) 31 = (k : Int) ∧ k ≤ len ∧ k ≤ 31 := ⟨min len 31, by omega, by omega, by omega⟩
  have hk' : (if (31 : Int) < (len : Int) then (31 : Int) else (len : Int)) = (k : Int) := by rw [← hk]; split <;> omega
  obtain ⟨hr, hlen, hc1, hc2⟩ := reads_row h0 k hk1
  have kc : (k : Int) ≤ (cap : Int) := by omega
  have k0 : (0 : Int) ≤ (k : Int) := by omega
  obtain ⟨bl, hbl⟩ : ∃ bl, zs.take k = bl := ⟨_, rfl⟩
  rw [hbl] at hr hlen
  obtain ⟨n, hn⟩ : ∃ n, 1 + k = n := ⟨_, rfl⟩
  have n0 : 0 < n := by omega
  have n32 : n ≤ 32 := by omega
  obtain ⟨X, hX⟩ : ∃ X, X = 1 :: bl := ⟨_, rfl⟩
  have Xl : X.length = n := by rw [hX]; simp; omega
  have HH0 := Lib.hid hbl
  have KL := Lib.hid hk2
  have HN := Lib.hid hn
  have HX := Lib.hid hX
  have HXl := Lib.hid Xl
  have HR0 := Lib.hid hr
  clear hc1 hc2 h0 hbl hk1 hlen hk2 hn hX Xl hr
  go_enter Try.func7, Try.ntmps7
  go_wp2_with (at_builtin; refine wpList_append_any _ rfl (.tmp 14) (.tmp 19) _ rfl w.heap.size 52 i0 _ 1 4 Try.underlying32 hi hz0 hz1 hz2 rfl (by omega) (.slice (some ⟨w.heap.size, 0, none⟩) 1 1) 1 (U [1]) rfl (own_new w.heap.size w (U [1]) (Nat.le_refl _) (by simp)) _ a k cap (U bl) rfl (HR0.out.alloc (Nat.le_refl _) _) (U_one _) ?c2 ?c3 ?c4 ?_)
  case c2 => have := KL.out; unfold maxLen; omega
  case c3 => have := KL.out; omega
  case c4 => first | (simp; done) | (simp; omega) | omega
  intro v1 w1 hown1 hg1 _
  have hown1' : w1.ownsRow w.heap.size 52 1 v1 n (U X) := by rw [HX.out, ← HN.out]; simpa using hown1
  obtain ⟨A1, c1, hv, ho1, b1⟩ := own_of (own_new w.heap.size w (U [1]) (Nat.le_refl _) (by simp)) ((Below.refl _ _).alloc (Nat.le_refl _) _) (by first | (simp; done) | (simp; omega) | omega) hown1' hg1
  rw [hv]
  clear hv hown1 hown1' hg1
  obtain ⟨g1, rfl, hg1, hg1'⟩ := own_at ho1 n0
  have s1 := b1.size
  have r1 := Reads.of_own ho1
  have H1 := Lib.hid ho1
  clear ho1
  go_wp2_with (at_builtin; refine wpList_append_any _ rfl (.tmp 21) (.tmp 22) _ rfl w1.heap.size 52 i0 _ 1 4 Try.underlying32 hi hz0 hz1 hz2 rfl (by omega) (.slice (some ⟨w1.heap.size, 0, none⟩) 0 0) 0 (U []) rfl (own_new0 w1.heap.size w1 (Nat.le_refl _)) _ (some ⟨g1, 0, none⟩) n c1 (U X) rfl (r1.alloc (Nat.le_refl _) _) (U_one _) ?c2 ?c3 ?c4 ?_)
  case c2 => unfold maxLen; omega
  case c3 => omega
  case c4 => first | (simp; done) | (simp; omega) | omega
  intro v2 w2 hown2 hg2 _
  have hown2' : w2.ownsRow w1.heap.size 52 1 v2 n (U X) := by simpa using hown2
  obtain ⟨A2, c2, hv, ho2, b2⟩ := own_of (own_new0 w1.heap.size w1 (Nat.le_refl _)) ((Below.refl _ _).alloc (Nat.le_refl _) _) (by first | (simp; done) | (simp; omega) | omega) hown2' hg2
  rw [hv]
  clear hv hown2 hown2' hg2 r1
  obtain ⟨g2, rfl, hg2, hg2'⟩ := own_at ho2 n0
  have B2 := Lib.hid (b1.trans (b2.mono s1))
  have H1 := Lib.hid (own_below H1.out b2)
  have H2 := Lib.hid (own_base ho2 s1)
  have s2 := b2.size
  have NEW := Lib.hid (new_ok 2 32 w2 ⟨by omega, by omega⟩ ⟨by omega, by omega⟩)
  clear b1 b2 ho2
  go_wp2_with fail
  refine NEW.out.mono ?_
  rintro e w3 ⟨rfl, R3, b3⟩
  have s3 := b3.size
  have B3 := Lib.hid (B2.out.trans (b3.mono B2.out.size))
  have H1 := Lib.hid (own_below H1.out b3)
  have H2 := Lib.hid (own_below H2.out b3)
  have HR := Lib.hid R3
  clear R3 b3 B2 NEW
  go_wp2_with fail
  refine (told_any w3).mono ?_
  rintro e w4 ⟨rfl, b4⟩
  have s4 := b4.size
  have B4 := Lib.hid (B3.out.trans (b4.mono B3.out.size))
  have H1 := Lib.hid (own_below H1.out b4)
  have H2 := Lib.hid (own_below H2.out b4)
  have R4 := HR.out.below b4
  have PUT := Lib.hid (put_ok w4 _ w2.heap.size 2 32 0 [] R4 (some ⟨g1, 0, none⟩) n c1 X (fun h => by cases h) (Reads.of_own H1.out) n32 (by simp))
  have LT4 := Lib.hid R4.lt
  clear R4 b4 B3 HR
  go_wp2_with fail
  refine PUT.out.mono ?_
  rintro e w5 ⟨rfl, R5, p5⟩
  have s5 := p5.size
  have l4 := LT4.out
  have g1ne : g1 ≠ w2.heap.size := by omega
  have g2ne : g2 ≠ w2.heap.size := by omega
  have S5 : St w (fun b => False ∨ (w4.heap.size ≤ b ∧ b < w5.heap.size)) w2.heap.size g2 n c2 X w5.heap.size w5 := ⟨B4.out.trans (p5.below (by omega) B4.out.size), R5, own_past H2.out p5 g2ne, Nat.le_refl _⟩
  have H1 := Lib.hid (own_past H1.out p5 g1ne)
  have SM := Lib.hid (same_true _ _ _ _ c1 c2 X w5 _ _ (Reads.of_own H1.out) S5.reads (by omega) (by omega))
  obtain ⟨Q, hQ⟩ : ∃ Q : Nat → Prop, (fun b => False ∨ (w4.heap.size ≤ b ∧ b < w5.heap.size)) = Q := ⟨_, rfl⟩
  have q1 : ¬ Q g1 := by rw [← hQ]; simp; omega
  have q5 : ∀ b, w5.heap.size ≤ b → ¬ Q b := fun b hb => by rw [← hQ]; simp; omega
  rw [hQ] at S5
  obtain ⟨g, hg⟩ : ∃ g, w2.heap.size = g := ⟨_, rfl⟩
  rw [hg] at S5 g1ne g2ne
  have gb : g < w5.heap.size := by omega
  have g1b : g1 < w5.heap.size := by omega
  have g2b : g2 < w5.heap.size := by omega
  have g12 : g2 ≠ g1 := by omega
  have HS := Lib.hid S5
  have HQ5 := Lib.hid q5
  have HQ1 := Lib.hid q1
  have N1 := Lib.hid g1ne
  have N2 := Lib.hid g2ne
  have N3 := Lib.hid g12
  have HG1 := Lib.hid hg1
  have HWG : Hid (w.heap.size ≤ g) := by unfold Hid; omega
  have HW : Hid (w.heap.size ≤ w5.heap.size) := by unfold Hid; omega
  have GB := Lib.hid gb
  have G2B := Lib.hid g2b
  obtain ⟨T, hT⟩ : ∃ T, Hid (w5.heap.size = T) := ⟨_, rfl⟩
  rw [hT.out] at HS HQ5 GB G2B HW
  clear S5 q5 q1 g1ne g2ne g12 gb g1b g2b hQ R5 p5 PUT B4 H2 LT4 l4 hg1 hg1' hg2 hg2' s1 s2 s3 s4 s5
  go_wp2_with fail
  refine SM.out.mono ?_
  rintro e w6 ⟨rfl, b6⟩
  have S6 := HS.out.below b6
  have h1 := own_below H1.out b6
  rw [HX.out] at h1
  have c6 := cell_first h1 n0
  have z6 := h1.frozenAt 0
  have HS6 := Lib.hid S6
  clear b6 S6 SM H1 h1
  go_wp2_with fail
  have S7 := Lib.hid fun (u : Value) => HS6.out.past ((Past.refl g1 w6).setCell 0 u) N1.out.symm N3.out HQ1.out HG1.out
  have PK := Lib.hid fun (u : Value) => peek_some (w6.setCell ⟨g1, 0, none⟩ u) _ _ _ _ _ _ _ (S7.out u).ring
  rw [HXl.out] at PK
  refine (PK.out _).mono ?_
  rintro e w8 ⟨A8, c8, rfl, ho8, b8⟩
  obtain ⟨g8, rfl, hg8, hg8'⟩ := own_at ho8 n0
  have S8 := (S7.out _).below b8
  have T8 := (S7.out (.int .u32 ((1 + by_) % 4294967296))).size
  have G8 := Lib.hid (Nat.le_trans T8 hg8)
  have HS8 := Lib.hid S8
  have H8 := Lib.hid ho8
  have SM := Lib.hid (same_true _ _ _ _ c8 c2 X w8 _ _ (Reads.of_own ho8) S8.reads (by omega) (by omega))
  clear b8 S8 ho8 S7 PK c6 z6 HS6 T8 hg8
  go_wp2_with fail
  refine SM.out.mono ?_
  rintro e w9 ⟨rfl, b9⟩
  have S9 := HS8.out.below b9
  have h8 := own_below H8.out b9
  rw [HX.out] at h8
  have c9 := cell_first h8 n0
  have z9 := h8.frozenAt 0
  have HS9 := Lib.hid S9
  have G8w : Hid (w.heap.size ≤ g8) := by have := G8.out; have := GB.out; have := HG1.out; have := HW.out; unfold Hid; omega
  clear b9 S9 SM H8 h8
  go_wp2_with fail
  have S10 := Lib.hid fun (u : Value) => HS9.out.past ((Past.refl g8 w9).setCell 0 u) (by have := G8.out; have := GB.out; omega) (by have := G8.out; have := G2B.out; omega) (HQ5.out g8 G8.out) G8w.out
  have AL := Lib.hid fun (u : Value) => all_any (w9.setCell ⟨g8, 0, none⟩ u) _ _ _ _ _ _ (S10.out u).ring
  refine (AL.out _).mono ?_
  rintro e w11 ⟨Al, cl, vs, rfl, hol, hsl, b11⟩
  have S11 := (S10.out _).below b11
  have T11 := (S10.out (.int .u32 ((1 + by_) % 4294967296))).size
  obtain ⟨gl, rfl, hgl, hgl'⟩ := own_at hol (by simp)
  have sl := hsl 0 (by simp)
  obtain ⟨Ae, ce, hve, hAe, hre, hqe⟩ := sl.ex
  simp only [List.getD_cons_zero] at hve hre hqe
  rw [HXl.out] at hve hre hqe
  obtain ⟨ge, oe, rfl, hge, hlx, hce⟩ := place_of hre n0
  obtain ⟨⟨q1, q2, q3⟩, q4⟩ := hqe _ rfl n0
  have hne : gl ≠ ge := fun e => q3 _ rfl e.symm
  have row0 : w11.cell? ⟨gl, 0, none⟩ = some (.slice (some ⟨ge, oe, none⟩) n ce) := by
    have hvl : vs.length = 1 := hol.1
    rw [hol.cellAt 0 (by simp)]
    rw [← hve, List.getD_eq_getElem?_getD, List.getElem?_eq_getElem (by omega)]; rfl
  have GEl : Hid (T ≤ ge) := Nat.le_trans T11 q1
  have HRE := Lib.hid hre
  have SM := Lib.hid (same_true _ _ _ _ ce c2 X w11 _ _ hre S11.reads (by omega) (by omega))
  have HS11 := Lib.hid S11
  have HQ4 := Lib.hid q4
  have HCE := Lib.hid (hce 0 n0)
  have HNE := Lib.hid hne
  clear hge hlx hce q1 q2 q3 q4 hne hqe hre hAe hve sl hgl hgl' hol hsl b11 S11 T11 S10 AL c9 z9 HS9
  go_wp2_with fail
  refine SM.out.mono ?_
  rintro e w12 ⟨rfl, b12⟩
  have S12 := HS11.out.below b12
  have HS12 := Lib.hid S12
  have row0 := cell_later b12 row0
  have ce0 := cell_later b12 HCE.out
  rw [Nat.add_zero, HX.out, List.getD_cons_zero] at ce0
  have ze : w12.frozen? ⟨ge, oe, none⟩ = false := (b12.frozen (p := ⟨ge, oe, none⟩) (World.block_lt_of_cell? _ _ HCE.out)).trans (HQ4.out oe)
  have HGE : Hid (w.heap.size ≤ ge) := by have := GEl.out; have := GB.out; have := HG1.out; have := HW.out; unfold Hid; omega
  clear b12 S12 SM HCE HQ4
  go_wp2_with fail
  refine wp_region_held_drew (S := (fun w' => Below w.heap.size w w' ∧ w'.cell? ⟨gl, 0, none⟩ = some (.slice (some ⟨ge, oe, none⟩) n ce))) (by kernel_rfl) ?_ (fun hHeld => ?_)
  · exact ⟨HS12.out.bel.drew, row0⟩
  refine takeD (i := 0) (d := some 82) (v := ?_) _ rfl rfl (by kernel_rfl) (by kernel_rfl) (by kernel_rfl) (fun _ _ _ h => h) (by rfl) ?_ (by assumption) ?_
  rotate_left
  · (intro w hSw; (try dsimp only at hSw); go_simp) <;> with_reducible rfl
  try simp only [Act.put, List.setIfInBounds_toArray, List.set_cons_zero, List.set_cons_succ]
  refine takeD (i := 1) (d := some 83) (v := ?_) _ rfl rfl (by kernel_rfl) (by kernel_rfl) (by kernel_rfl) (fun _ _ _ h => h) (by rfl) ?_ (by assumption) ?_
  rotate_left
  · (intro w hSw; (try dsimp only at hSw); go_simp) <;> with_reducible rfl
  try simp only [Act.put, List.setIfInBounds_toArray, List.set_cons_zero, List.set_cons_succ]
  refine takeD (i := 2) (d := some 84) (v := ?_) _ rfl rfl (by kernel_rfl) (by kernel_rfl) (by kernel_rfl) (fun _ _ _ h => h) (by rfl) ?_ (by assumption) ?_
  rotate_left
  · (intro w hSw; (try dsimp only at hSw); go_simp) <;> with_reducible rfl
  try simp only [Act.put, List.setIfInBounds_toArray, List.set_cons_zero, List.set_cons_succ]
  refine takeD (i := 3) (d := some 85) (v := ?_) _ rfl rfl (by kernel_rfl) (by kernel_rfl) (by kernel_rfl) (fun _ _ _ h => h) (by rfl) ?_ (by assumption) ?_
  rotate_left
  · (intro w hSw; (try dsimp only at hSw); go_simp) <;> with_reducible rfl
  try simp only [Act.put, List.setIfInBounds_toArray, List.set_cons_zero, List.set_cons_succ]
  refine takeD (i := 4) (d := some 86) (v := ?_) _ rfl rfl (by kernel_rfl) (by kernel_rfl) (by kernel_rfl) (fun _ _ _ h => h) (by rfl) ?_ (by assumption) ?_
  rotate_left
  · (intro w hSw; (try dsimp only at hSw); go_simp) <;> with_reducible rfl
  try simp only [Act.put, List.setIfInBounds_toArray, List.set_cons_zero, List.set_cons_succ]
  refine takeD (i := 5) (d := some 87) (v := ?_) _ rfl rfl (by kernel_rfl) (by kernel_rfl) (by kernel_rfl) (fun _ _ _ h => h) (by rfl) ?_ (by assumption) ?_
  rotate_left
  · (intro w hSw; (try dsimp only at hSw); go_simp) <;> with_reducible rfl
  try simp only [Act.put, List.setIfInBounds_toArray, List.set_cons_zero, List.set_cons_succ]
  refine takeD (i := 6) (d := some 88) (v := ?_) _ rfl rfl (by kernel_rfl) (by kernel_rfl) (by kernel_rfl) (fun _ _ _ h => h) (by rfl) ?_ (by assumption) ?_
  rotate_left
  · (intro w hSw; (try dsimp only at hSw); go_simp) <;> with_reducible rfl
  try simp only [Act.put, List.setIfInBounds_toArray, List.set_cons_zero, List.set_cons_succ]
  refine takeD (i := 8) (d := some 90) (v := ?_) _ rfl rfl (by kernel_rfl) (by kernel_rfl) (by kernel_rfl) (fun _ _ _ h => h) (by rfl) ?_ (by assumption) ?_
  rotate_left
  · (intro w hSw; (try dsimp only at hSw); go_simp) <;> with_reducible rfl
  try simp only [Act.put, List.setIfInBounds_toArray, List.set_cons_zero, List.set_cons_succ]
  refine wpAnyH_ready (rs := [7]) (by kernel_rfl) (by simp) ?_
  refine AllReadyH.cons rfl (fun K hK => ?_) AllReadyH.nil
  go_simp
  refine hK.out _ _ (by assumption) (fun hHeld => ?_)
  clear hK K
  try simp only [Act.put, List.setIfInBounds_toArray, List.set_cons_zero, List.set_cons_succ]
  refine takeD (i := 9) (d := some 91) (v := ?_) _ rfl rfl (by kernel_rfl) (by kernel_rfl) (by kernel_rfl) (fun _ _ _ h => h) (by rfl) ?_ (by assumption) ?_
  rotate_left
  · (intro w hSw; (try dsimp only at hSw); go_simp) <;> with_reducible rfl
  try simp only [Act.put, List.setIfInBounds_toArray, List.set_cons_zero, List.set_cons_succ]
  refine takeD (i := 10) (d := some 92) (v := ?_) _ rfl rfl (by kernel_rfl) (by kernel_rfl) (by kernel_rfl) (fun _ _ _ h => h) (by rfl) ?_ (by assumption) ?_
  rotate_left
  · (intro w hSw; (try dsimp only at hSw); go_simp) <;> with_reducible rfl
  try simp only [Act.put, List.setIfInBounds_toArray, List.set_cons_zero, List.set_cons_succ]
  refine wpAnyH_ready (rs := [11]) (by kernel_rfl) (by simp) ?_
  refine AllReadyH.cons rfl (fun K hK => ?_) AllReadyH.nil
  go_simp
  refine hK.out _ _ ?_ (fun hHeld => ?_)
  · exact ⟨(HS12.out.bel.setCell (p := ⟨ge, oe, none⟩) HGE.out _).drew, (World.cell?_setCell_other w12 _ _ _ (fun e => by injection e with e1 _ _; exact HNE.out e1.symm)).trans row0⟩
  clear hK K
  try simp only [Act.put, List.setIfInBounds_toArray, List.set_cons_zero, List.set_cons_succ]
  refine wpAnyH_done (by kernel_rfl) ?_ _
  have S13 := Lib.hid fun (u : Value) => HS12.out.past ((Past.refl ge w12).setCell oe u).drew (by have := GEl.out; have := GB.out; omega) (by have := GEl.out; have := G2B.out; omega) (HQ5.out ge GEl.out) HGE.out
  have TK := Lib.hid fun (u : Value) => take_some _ _ _ _ _ _ 1 _ _ (S13.out u).ring (by decide)
  rw [HXl.out] at TK
  go_wp2_with fail
  refine (TK.out _).mono ?_
  rintro e w14 ⟨A14, c14, rfl, hs14, hr14, p14⟩
  obtain ⟨A, c, hv, _, hrd, _⟩ := hs14.ex
  rw [HXl.out] at hv hrd
  injection hv with e1 _ e3
  subst e1
  subst e3
  have w14r := Reads.of_own (own_past (S13.out (.int .u32 ((1 + by_) % 4294967296))).was p14 N2.out)
  have b14 : Below w.heap.size w w14 := (S13.out (.int .u32 ((1 + by_) % 4294967296))).bel.trans (p14.below HWG.out (S13.out (.int .u32 ((1 + by_) % 4294967296))).bel.size)
  have SM := Lib.hid (same_true _ _ _ _ c14 c2 X w14 _ _ hrd w14r (by omega) (by omega))
  have B14 := Lib.hid b14
  clear b14 w14r hrd hs14 hr14 p14 TK S13 row0 ce0 ze
  go_wp2_with fail
  refine SM.out.mono ?_
  rintro e w15 ⟨rfl, b15⟩
  go_wp2_with fail
  go_ret
  exact ⟨rfl, B14.out.trans (b15.mono B14.out.size)⟩
end Go.Proofs.Ytpejmkdmjlfgpaa
