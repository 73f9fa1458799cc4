/-
  Request, Mode, Now, Wanted of a plan; the law's Little. Each statement bears its own conditions.
-/
import Derived.Test.YtcnhghnkocdjkaaFrK
namespace Go.Proofs.Ytcnhghnkocdjkaa
open Go.RowKit
set_option linter.unusedVariables false
set_option linter.unusedSimpArgs false
theorem mode_any (lo hi g : Nat) (p : MP) (w : World) (h : PF lo hi g w p) :
    Calls Try.prog 30 #[.pointer (some ⟨g, 0, none⟩)] w fun e w' => e = .returned (.int .i64 p.mode) ∧ Below w.heap.size w w' := by
  obtain ⟨a, c, h1, _, _, _⟩ := h.open_
  have d0 := (row_cell h1 1).1
  simp at d0
  clear h h1
  go_enter Try.func30, Try.ntmps30
  go_wp2_with fail
  go_ret
  exact ⟨rfl, Below.refl _ _⟩
theorem now_any (lo hi g : Nat) (p : MP) (w : World) (h : PF lo hi g w p) :
    Calls Try.prog 28 #[.pointer (some ⟨g, 0, none⟩)] w fun e w' => e = .returned (.int .i64 p.now) ∧ Below w.heap.size w w' := by
  obtain ⟨a, c, h1, _, _, _⟩ := h.open_
  have d0 := (row_cell h1 3).1
  simp at d0
  clear h h1
  go_enter Try.func28, Try.ntmps28
  go_wp2_with fail
  go_ret
  exact ⟨rfl, Below.refl _ _⟩
theorem wanted_any (lo hi g : Nat) (p : MP) (w : World) (h : PF lo hi g w p) :
    Calls Try.prog 31 #[.pointer (some ⟨g, 0, none⟩)] w fun e w' => e = .returned (if p.next = p.mode then .tuple #[.int .i64 0, .bool false] else .tuple #[.int .i64 p.next, .bool true]) ∧ Below w.heap.size w w' := by
  obtain ⟨a, c, h1, _, _, _⟩ := h.open_
  have d1 := (row_cell h1 1).1
  have d2 := (row_cell h1 2).1
  simp at d1 d2
  obtain ⟨ts, mode, next, now, tick⟩ := p
  dsimp only at d1 d2 ⊢
  clear h h1
  by_cases he : next = mode
  · subst he
    rw [if_pos rfl]
    go_enter Try.func31, Try.ntmps31
    go_wp2_with fail
    go_quiet (fail)
    go_wp2_with fail
    go_ret2
    exact ⟨rfl, below_drewN (Below.refl _ _) _⟩
  · have heb : (next == mode) = false := by simpa using he
    rw [if_neg he]
    go_enter Try.func31, Try.ntmps31
    go_wp2_with fail
    go_quiet (fail)
    go_wp2_with fail
    go_ret2
    exact ⟨rfl, below_drewN (Below.refl _ _) _⟩
theorem request_ok (lo hi g : Nat) (p : MP) (mode : Int) (w : World) (h : PF lo hi g w p) (hm : 0 ≤ mode ∧ mode < p.ts.length) :
    Calls Try.prog 25 #[.pointer (some ⟨g, 0, none⟩), .int .i64 mode] w fun e w' => e = .returned (.int .i64 0) ∧ PF lo hi g w' ⟨p.ts, p.mode, mode, p.now, p.tick⟩ ∧ Past g w w' := by
  have C := Lib.hid (has_any lo hi g p mode w h)
  rw [show (decide ((0 : Int) ≤ mode) && decide (mode < (p.ts.length : Int))) = true by simp; omega] at C
  have H := Lib.hid h
  clear h hm
  go_enter Try.func25, Try.ntmps25
  go_wp2_with fail
  refine C.out.mono ?_
  rintro e W1 ⟨rfl, b1⟩
  obtain ⟨a, c, h1, _, h3, _⟩ := (H.out.below b1).open_
  have hlt := H.out.lt
  have d2 := (row_cell h1 2).1
  have y2 := (row_cell h1 2).2
  simp at d2
  have HP : Hid (PF lo hi g (W1.setCell ⟨g, 2, none⟩ (.int .i64 mode)) ⟨p.ts, p.mode, mode, p.now, p.tick⟩) := by
    refine ⟨_, by have h := set_at h1 2 (.int .i64 mode); simpa using h, hlt.1, hlt.2.1, by have := b1.size; have := hlt.2.2; simp [World.setCell]; omega, h3.keep fun k _ _ hk => set_far _ _ hk⟩
  have HB : Hid (Past g w (W1.setCell ⟨g, 2, none⟩ (.int .i64 mode))) := (Past.of_below b1).setCell 2 _
  clear C h1 h3 b1 hlt
  go_wp2_with fail
  go_ret
  exact ⟨rfl, HP.out, HB.out⟩
def littleT (t : MT) : MT := ⟨if 40 < t.fr then if t.fr ≤ 1048576 then 40 else t.fr else t.fr, t.ws.take 70⟩
def little (ts : List MT) : List MT := (ts.take 9).map littleT
structure LitRel (n : Nat) (ts : List MT) (w : World) (v3 v4 : Value) (wr : World) : Prop where
  ex : ∃ (k : Nat) (A : Option Addr) (c : Nat) (L : List (MT × Value)), k ≤ n ∧ k ≤ 9 ∧ v4 = .int .i64 (k : Int) ∧ v3 = .slice A k c ∧ wr.ownsRow w.heap.size 24 2 (.slice A k c) k (cellsT L) ∧ L.map (·.1) = (ts.take k).map littleT ∧
    (∀ q ∈ L, Row w 3 RW q.2 q.1.ws ∧ I64 q.1.fr) ∧ Below w.heap.size w wr
set_option maxRecDepth 100000 in
set_option maxHeartbeats 4000000 in
theorem little_any (v : Value) (ts : List MT) (w : World) (h : Row w 2 (RTc w) v ts) :
    Calls Try.prog 19 #[v] w fun e w' => (∃ r, e = .returned r ∧ Row w' 2 (RT w') r (little ts)) ∧ Below w.heap.size w w' := by
  obtain ⟨i0, hi, hz0, hz1, hz2⟩ := frinfo_of tab_info
  obtain ⟨a, cap, rfl, hm⟩ := h.form
  obtain ⟨n, hn⟩ : ∃ n, ts.length = n := ⟨_, rfl⟩
  rw [hn] at h hm ⊢
  have HN := Lib.hid hn
  have H := Lib.hid h
  unfold rowMax at hm
  have HM := Lib.hid hm
  clear hn h
  go_enter Try.func19, Try.ntmps19
  go_wp2_with fail
  go_loopw [3, 4] (fun v3 v4 wr => LitRel n ts w v3 v4 wr) (fun _ v => fun _ => n - (intOf v).toNat)
  case atStart => exact ⟨⟨0, none, 0, [], Nat.zero_le _, by omega, rfl, rfl, World.ownsRow_nil _ _ _ _, rfl, by simp, Below.refl _ _⟩⟩
  case round =>
    obtain ⟨⟨k, A, c, L, hk, hk9, rfl, rfl, ho, hL, hq, hb⟩⟩ := hrel
    have HK : Hid (k ≤ n ∧ k ≤ 9) := ⟨hk, hk9⟩
    have HO := Lib.hid ho
    have HL := Lib.hid hL
    have HQ := Lib.hid hq
    have HB := Lib.hid hb
    clear hk hk9 ho hL hq hb
    have fin : Hid ((¬ k < n ∨ ¬ k < 9) → Row wr 2 (RT wr) (.slice A k c) (little ts)) := fun hor => by
      have h1 : ts.take k = ts.take 9 := by
        have := HK.out; have := HN.out
        rcases hor with h0 | h0
        · rw [List.take_of_length_le (by omega), List.take_of_length_le (by omega)]
        · rw [show k = 9 by omega]
      have h2 := row_of_own HO.out (by have := HK.out; unfold rowMax; omega) (fun q hq => ⟨(HQ.out q hq).1.below HB.out, (HQ.out q hq).2⟩)
      rw [HL.out, h1] at h2
      exact h2
    by_cases hlt : k < n
    · have hkI : (k : Int) < (n : Int) := by omega
      by_cases hlt9 : k < 9
      · have hk9I : (k : Int) < 9 := by omega
        have HX : Hid (k + 1 ≤ n ∧ k + 1 ≤ 9) := ⟨hlt, hlt9⟩
        obtain ⟨hnx, b, off, x, cs, rfl, hbl, hx, hR, _, hc⟩ := H.out.at_ k hlt
        clear hnx
        have HT := Lib.hid (take_snoc hx)
        obtain ⟨xf, xws⟩ := x
        obtain ⟨xv, rfl, hxi, hxr, hxc⟩ := hR
        have HXI : Hid (I64 xf) := hxi
        have d0 : wr.cell? ⟨b, off + k * 2, none⟩ = some (.int .i64 xf) := cell_later HB.out (hc 0 _ rfl)
        have d1 : wr.cell? ⟨b, off + k * 2 + 1, none⟩ = some xv := cell_later HB.out (hc 1 _ rfl)
        obtain ⟨xa, xc, rfl, hxm⟩ := hxr.form
        obtain ⟨xn, hxn⟩ : ∃ xn, xws.length = xn := ⟨_, rfl⟩
        dsimp only at hxr
        rw [hxn] at d1 hxr hxm hxc
        have hrc := row_cut hxr
        have C := Lib.hid (cut_any xf xa xn xc wr (hxc _ _ _ rfl) (by unfold rowMax at hxm; exact hxm))
        obtain ⟨xm, hxmm⟩ : ∃ xm, (min (xn : Int) 70).toNat = xm := ⟨_, rfl⟩
        rw [hxmm] at C hrc
        have HXR := Lib.hid hrc
        clear hc hxi hxr hbl hx hxm hxn hxc hrc hxmm fin hlt hlt9
        go_wp2_with fail
        refine C.out.mono ?_
        rintro e W1 ⟨rfl, b1⟩
        have HB1 : Hid (Below w.heap.size w W1) := HB.out.trans (b1.mono HB.out.size)
        have HS1 := Lib.hid HB1.out.size
        have HO1 : Hid (∀ f : Int, ((W1.alloc (.cells #[.int .i64 f, .slice xa xm xc] 24)).alloc (.cells #[.int .i64 f, .slice xa xm xc] 24)).ownsRow w.heap.size 24 2 (.slice A k c) k (cellsT L)) := fun f => own_below (own_below (own_below HO.out b1) ((Below.refl _ _).alloc (Nat.le_refl _) _)) ((Below.refl _ _).alloc (Nat.le_refl _) _)
        have HBA : Hid (∀ f : Int, Below w.heap.size w ((W1.alloc (.cells #[.int .i64 f, .slice xa xm xc] 24)).alloc (.cells #[.int .i64 f, .slice xa xm xc] 24))) := fun f => (HB1.out.alloc HB1.out.size _).alloc (by have := HS1.out; simp; omega) _
        clear b1 C d0 d1
        by_cases hf1 : 40 < xf
        · by_cases hf2 : xf ≤ 1048576
          · go_wp2_with (at_builtin; refine wpList_append_own _ rfl _ _ 44 rfl w.heap.size 24 i0 (.agg #[.int .i64 0, .slice none 0 0]) 2 32 Try.underlying44 hi hz0 hz1 hz2 rfl (by decide) _ _ _ rfl (HO1.out 40) ⟨W1.heap.size + 1, 0, none⟩ 1 1 [.int .i64 40, .slice xa xm xc] rfl rfl ?c1 ?c2 ?c3 ?c4 ?c5 ?_)
            try (case c1 => (intro j u hu; match j, hu with
              | 0, hu => simp at hu; subst hu; rw [Addr.add_lit]; simp
              | 1, hu => simp at hu; subst hu; rw [Addr.add_lit]; simp
              | j + 2, hu => simp at hu))
            try (case c2 => first | exact ⟨rfl, rfl⟩ | (intro u hu; simp at hu; rcases hu with rfl | rfl <;> rfl))
            case c3 => have h1 := HX.out; unfold maxLen; omega
            case c4 => have h1 := HX.out; omega
            case c5 => have := HS1.out; (try simp); omega
            intro v' w2 hown hgrow hnn
            obtain ⟨A', c', rfl⟩ := frown_form hown
            have HFE : Hid ((⟨40, xws.take 70⟩ : MT) = littleT ⟨xf, xws⟩) := by unfold Hid littleT; rw [if_pos hf1, if_pos hf2]
            have HF : Hid (w2.ownsRow w.heap.size 24 2 (.slice A' (k + 1) c') (k + 1) (cellsT (L ++ [((⟨40, xws.take 70⟩ : MT), .slice xa xm xc)])) ∧ (L ++ [((⟨40, xws.take 70⟩ : MT), Value.slice xa xm xc)]).map (·.1) = (ts.take (k + 1)).map littleT) := by
              refine ⟨by rw [cellsT_app]; exact hown, ?_⟩
              rw [HT.out, List.map_append, List.map_append, HL.out]
              show _ ++ [_] = _ ++ [_]
              rw [HFE.out]
            have HG2 : Hid (∀ q ∈ L ++ [((⟨40, xws.take 70⟩ : MT), Value.slice xa xm xc)], Row w 3 RW q.2 q.1.ws ∧ I64 q.1.fr) := by
              intro q hqm
              rcases List.mem_append.1 hqm with h1 | h1
              · exact HQ.out q h1
              · simp at h1
                subst h1
                exact ⟨HXR.out, by first | exact HXI.out | (unfold I64; dsimp only; omega)⟩
            have HB2 : Hid (Below w.heap.size w w2) := (HBA.out 40).grown hgrow (by have := HS1.out; (try simp); omega) (fun k hk => ((HO1.out 40).lt k hk).1)
            clear hown hgrow hnn
            go_wp2_with fail
            go_roundw
            case rel =>
              have Q : LitRel n ts w (.slice A' (k + 1) c') (.int .i64 ((k : Int) + 1)) w2 := ⟨⟨k + 1, A', c', _, HX.out.1, HX.out.2, by go_num, rfl, HF.out.1, HF.out.2, HG2.out, HB2.out⟩⟩
              first | exact Q | ((repeat apply Exists.intro); exact ⟨Q, rfl⟩)
            case measure => have := HX.out; simp [intOf]; omega
          · go_wp2_with (at_builtin; refine wpList_append_own _ rfl _ _ 44 rfl w.heap.size 24 i0 (.agg #[.int .i64 0, .slice none 0 0]) 2 32 Try.underlying44 hi hz0 hz1 hz2 rfl (by decide) _ _ _ rfl (HO1.out xf) ⟨W1.heap.size + 1, 0, none⟩ 1 1 [.int .i64 xf, .slice xa xm xc] rfl rfl ?c1 ?c2 ?c3 ?c4 ?c5 ?_)
            try (case c1 => (intro j u hu; match j, hu with
              | 0, hu => simp at hu; subst hu; rw [Addr.add_lit]; simp
              | 1, hu => simp at hu; subst hu; rw [Addr.add_lit]; simp
              | j + 2, hu => simp at hu))
            try (case c2 => first | exact ⟨rfl, rfl⟩ | (intro u hu; simp at hu; rcases hu with rfl | rfl <;> rfl))
            case c3 => have h1 := HX.out; unfold maxLen; omega
            case c4 => have h1 := HX.out; omega
            case c5 => have := HS1.out; (try simp); omega
            intro v' w2 hown hgrow hnn
            obtain ⟨A', c', rfl⟩ := frown_form hown
            have HFE : Hid ((⟨xf, xws.take 70⟩ : MT) = littleT ⟨xf, xws⟩) := by unfold Hid littleT; rw [if_pos hf1, if_neg (by dsimp only; omega)]
            have HF : Hid (w2.ownsRow w.heap.size 24 2 (.slice A' (k + 1) c') (k + 1) (cellsT (L ++ [((⟨xf, xws.take 70⟩ : MT), .slice xa xm xc)])) ∧ (L ++ [((⟨xf, xws.take 70⟩ : MT), Value.slice xa xm xc)]).map (·.1) = (ts.take (k + 1)).map littleT) := by
              refine ⟨by rw [cellsT_app]; exact hown, ?_⟩
              rw [HT.out, List.map_append, List.map_append, HL.out]
              show _ ++ [_] = _ ++ [_]
              rw [HFE.out]
            have HG2 : Hid (∀ q ∈ L ++ [((⟨xf, xws.take 70⟩ : MT), Value.slice xa xm xc)], Row w 3 RW q.2 q.1.ws ∧ I64 q.1.fr) := by
              intro q hqm
              rcases List.mem_append.1 hqm with h1 | h1
              · exact HQ.out q h1
              · simp at h1
                subst h1
                exact ⟨HXR.out, by first | exact HXI.out | (unfold I64; dsimp only; omega)⟩
            have HB2 : Hid (Below w.heap.size w w2) := (HBA.out xf).grown hgrow (by have := HS1.out; (try simp); omega) (fun k hk => ((HO1.out xf).lt k hk).1)
            clear hown hgrow hnn
            go_wp2_with fail
            go_roundw
            case rel =>
              have Q : LitRel n ts w (.slice A' (k + 1) c') (.int .i64 ((k : Int) + 1)) w2 := ⟨⟨k + 1, A', c', _, HX.out.1, HX.out.2, by go_num, rfl, HF.out.1, HF.out.2, HG2.out, HB2.out⟩⟩
              first | exact Q | ((repeat apply Exists.intro); exact ⟨Q, rfl⟩)
            case measure => have := HX.out; simp [intOf]; omega
        · go_wp2_with (at_builtin; refine wpList_append_own _ rfl _ _ 44 rfl w.heap.size 24 i0 (.agg #[.int .i64 0, .slice none 0 0]) 2 32 Try.underlying44 hi hz0 hz1 hz2 rfl (by decide) _ _ _ rfl (HO1.out xf) ⟨W1.heap.size + 1, 0, none⟩ 1 1 [.int .i64 xf, .slice xa xm xc] rfl rfl ?c1 ?c2 ?c3 ?c4 ?c5 ?_)
          try (case c1 => (intro j u hu; match j, hu with
            | 0, hu => simp at hu; subst hu; rw [Addr.add_lit]; simp
            | 1, hu => simp at hu; subst hu; rw [Addr.add_lit]; simp
            | j + 2, hu => simp at hu))
          try (case c2 => first | exact ⟨rfl, rfl⟩ | (intro u hu; simp at hu; rcases hu with rfl | rfl <;> rfl))
          case c3 => have h1 := HX.out; unfold maxLen; omega
          case c4 => have h1 := HX.out; omega
          case c5 => have := HS1.out; (try simp); omega
          intro v' w2 hown hgrow hnn
          obtain ⟨A', c', rfl⟩ := frown_form hown
          have HFE : Hid ((⟨xf, xws.take 70⟩ : MT) = littleT ⟨xf, xws⟩) := by unfold Hid littleT; rw [if_neg (by dsimp only; omega)]
          have HF : Hid (w2.ownsRow w.heap.size 24 2 (.slice A' (k + 1) c') (k + 1) (cellsT (L ++ [((⟨xf, xws.take 70⟩ : MT), .slice xa xm xc)])) ∧ (L ++ [((⟨xf, xws.take 70⟩ : MT), Value.slice xa xm xc)]).map (·.1) = (ts.take (k + 1)).map littleT) := by
            refine ⟨by rw [cellsT_app]; exact hown, ?_⟩
            rw [HT.out, List.map_append, List.map_append, HL.out]
            show _ ++ [_] = _ ++ [_]
            rw [HFE.out]
          have HG2 : Hid (∀ q ∈ L ++ [((⟨xf, xws.take 70⟩ : MT), Value.slice xa xm xc)], Row w 3 RW q.2 q.1.ws ∧ I64 q.1.fr) := by
            intro q hqm
            rcases List.mem_append.1 hqm with h1 | h1
            · exact HQ.out q h1
            · simp at h1
              subst h1
              exact ⟨HXR.out, by first | exact HXI.out | (unfold I64; dsimp only; omega)⟩
          have HB2 : Hid (Below w.heap.size w w2) := (HBA.out xf).grown hgrow (by have := HS1.out; (try simp); omega) (fun k hk => ((HO1.out xf).lt k hk).1)
          clear hown hgrow hnn
          go_wp2_with fail
          go_roundw
          case rel =>
            have Q : LitRel n ts w (.slice A' (k + 1) c') (.int .i64 ((k : Int) + 1)) w2 := ⟨⟨k + 1, A', c', _, HX.out.1, HX.out.2, by go_num, rfl, HF.out.1, HF.out.2, HG2.out, HB2.out⟩⟩
            first | exact Q | ((repeat apply Exists.intro); exact ⟨Q, rfl⟩)
          case measure => have := HX.out; simp [intOf]; omega
      · have hk9I : ¬ (k : Int) < 9 := by omega
        have HF := Lib.hid (fin.out (.inr hlt9))
        clear fin
        go_wp2_with fail
        go_ret
        exact ⟨⟨_, rfl, HF.out⟩, HB.out⟩
    · have hkI : ¬ (k : Int) < (n : Int) := by omega
      have HF := Lib.hid (fin.out (.inl hlt))
      clear fin
      go_wp2_with fail
      go_ret
      exact ⟨⟨_, rfl, HF.out⟩, HB.out⟩
end Go.Proofs.Ytcnhghnkocdjkaa
