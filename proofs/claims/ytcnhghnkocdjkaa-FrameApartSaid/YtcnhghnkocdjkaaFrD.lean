/-
  Clones of lists of tables. Each statement bears its own conditions.
-/
import Derived.Test.YtcnhghnkocdjkaaFrC
namespace Go.Proofs.Ytcnhghnkocdjkaa
open Go.RowKit
set_option linter.unusedVariables false
set_option linter.unusedSimpArgs false
def tcell (q : MT × Value) : List Value := [.int .i64 q.1.fr, q.2]
def cellsT (L : List (MT × Value)) : List Value := L.flatMap tcell
theorem cellsT_app (a b : List (MT × Value)) : cellsT (a ++ b) = cellsT a ++ cellsT b := by simp [cellsT]
theorem tab_info : (Try.prog.info? 24).map (fun i => (i.zero, i.size, i.bytes)) = some (some (.agg #[.int .i64 0, .slice none 0 0]), 2, 32) := by kernel_rfl
/-- Tables in a row that was made, with the rows of their windows. -/
def TabOwn (B : Nat) (w : World) (v : Value) (ts : List MT) : Prop := ∃ n L, w.ownsRow B 24 2 v n (cellsT L) ∧ L.map (·.1) = ts ∧ (∀ q ∈ L, FreshW B w q.2 q.1.ws ∧ I64 q.1.fr) ∧ n ≤ rowMax
theorem row_of_own {w : World} {B n : Nat} {v : Value} {L : List (MT × Value)} (h : w.ownsRow B 24 2 v n (cellsT L)) (hn : n ≤ rowMax) (hq : ∀ q ∈ L, Row w 3 RW q.2 q.1.ws ∧ I64 q.1.fr) : Row w 2 (RT w) v (L.map (·.1)) := by
  have h1 : Row w 2 (fun (q : MT × Value) cs => cs = tcell q ∧ q ∈ L) v L := own_rowK (f := tcell) (by decide) (fun _ => rfl) (fun q hq => ⟨rfl, hq⟩) h hn
  obtain ⟨a, cap, e, hm, hc⟩ := h1.ex
  refine ⟨a, cap, by rw [List.length_map]; exact e, by rw [List.length_map]; exact hm, fun hp => ?_⟩
  rw [List.length_map] at hp
  obtain ⟨b, off, e1, hlt, h2⟩ := hc hp
  refine ⟨b, off, e1, hlt, fun i x hx => ?_⟩
  rw [List.getElem?_map] at hx
  cases hq1 : L[i]? with
  | none => rw [hq1] at hx; cases hx
  | some q =>
    rw [hq1] at hx
    injection hx with hx
    subst hx
    obtain ⟨cs, ⟨rfl, hqm⟩, h4, h5⟩ := h2 i q hq1
    exact ⟨_, ⟨q.2, rfl, (hq q hqm).2, (hq q hqm).1⟩, h4, h5⟩
theorem TabOwn.row {B : Nat} {w : World} {v : Value} {ts : List MT} (h : TabOwn B w v ts) : Row w 2 (RT w) v ts := by
  obtain ⟨n, L, h1, rfl, h3, h4⟩ := h
  exact row_of_own h1 h4 fun q hq => ⟨(h3 q hq).1.row, (h3 q hq).2⟩
theorem TabOwn.same {B : Nat} {w w' : World} {v : Value} {ts : List MT} (h : TabOwn B w v ts) (hs : ∀ g, B ≤ g → g < w.heap.size → w'.heap[g]? = w.heap[g]?) : TabOwn B w' v ts := by
  obtain ⟨n, L, h1, h2, h3, h4⟩ := h
  exact ⟨n, L, own_same h1 fun g hg => hs g (h1.lt g hg).1 (h1.lt g hg).2, h2, fun q hq => ⟨(h3 q hq).1.same fun g hg => hs g ((h3 q hq).1.lt g hg).1 ((h3 q hq).1.lt g hg).2, (h3 q hq).2⟩, h4⟩
theorem TabOwn.form {B : Nat} {w : World} {v : Value} {ts : List MT} (h : TabOwn B w v ts) : ∃ a c, v = .slice a ts.length c := by
  obtain ⟨a, c, e, _⟩ := h.row.form
  exact ⟨a, c, e⟩
structure CTRel (n : Nat) (ts : List MT) (w : World) (v3 v8 : Value) (wr : World) : Prop where
  ex : ∃ (k : Nat) (A : Option Addr) (c : Nat) (L : List (MT × Value)), k ≤ n ∧ v8 = .int .i64 (k : Int) ∧ v3 = .slice A k c ∧ wr.ownsRow w.heap.size 24 2 (.slice A k c) k (cellsT L) ∧ L.map (·.1) = ts.take k ∧
    (∀ q ∈ L, FreshW w.heap.size wr q.2 q.1.ws ∧ I64 q.1.fr ∧ ∀ g, q.2.ownBlock = some g → (Value.slice A k c).ownBlock ≠ some g) ∧ Below w.heap.size w wr
set_option maxRecDepth 100000 in
set_option maxHeartbeats 4000000 in
theorem tables_any (v : Value) (ts : List MT) (w : World) (h : Row w 2 (RT w) v ts) (hlen : ts.length ≤ 9) (hw : ∀ t ∈ ts, t.ws.length ≤ 70) :
    Calls Try.prog 37 #[v] w fun e w' => (∃ r, e = .returned r ∧ TabOwn w.heap.size w' r ts) ∧ Below w.heap.size w w' := by
  obtain ⟨i0, hi, hz0, hz1, hz2⟩ := frinfo_of tab_info
  obtain ⟨a, cap, rfl, hm⟩ := h.form
  obtain ⟨n, hn⟩ : ∃ n, ts.length = n := ⟨_, rfl⟩
  rw [hn] at h hlen ⊢
  have HN := Lib.hid hn
  have H := Lib.hid h
  have HM := Lib.hid hlen
  have HW := Lib.hid hw
  clear hn h hm hw
  go_enter Try.func37, Try.ntmps37
  go_wp2_with fail
  go_loopw [3, 8] (fun v3 v8 wr => CTRel n ts w v3 v8 wr) (fun _ v => fun _ => n - (intOf v).toNat)
  case atStart => exact ⟨⟨0, none, 0, [], Nat.zero_le _, rfl, rfl, World.ownsRow_nil _ _ _ _, rfl, by simp, Below.refl _ _⟩⟩
  case round =>
    obtain ⟨⟨k, A, c, L, hk, rfl, rfl, ho, hL, hq, hb⟩⟩ := hrel
    have HK := Lib.hid hk
    have HO := Lib.hid ho
    have HL := Lib.hid hL
    have HQ := Lib.hid hq
    have HB := Lib.hid hb
    clear hk ho hL hq hb
    by_cases hlt : k < n
    · have hkI : (k : Int) < (n : Int) := by omega
      have HX : Hid (k < n) := hlt
      obtain ⟨hnx, b, off, x, cs, rfl, hbl, hx, hR, _, hc⟩ := H.out.at_ k hlt
      clear hnx
      have HT := Lib.hid (take_snoc hx)
      have hwx := HW.out x (List.mem_of_getElem? hx)
      obtain ⟨xf, xws⟩ := x
      obtain ⟨xv, rfl, hxi, hxr⟩ := hR
      have HXI : Hid (I64 xf) := hxi
      dsimp only at hwx
      have d0 : wr.cell? ⟨b, off + k * 2, none⟩ = some (.int .i64 xf) := cell_later HB.out (hc 0 _ rfl)
      have d1 : wr.cell? ⟨b, off + k * 2 + 1, none⟩ = some xv := cell_later HB.out (hc 1 _ rfl)
      have C := Lib.hid (tclone_any xf xv xws (wr.alloc (.cells #[.int .i64 xf, xv] 24)) ((hxr.below HB.out).alloc _) hwx)
      obtain ⟨xa, xc, rfl, hxm⟩ := hxr.form
      obtain ⟨xn, hxn⟩ : ∃ xn, xws.length = xn := ⟨_, rfl⟩
      rw [hxn] at C d1
      clear hc hxi hxr hbl hx hlt hwx hxm hxn
      go_wp2_with fail
      refine C.out.mono ?_
      rintro e W1 ⟨⟨r, rfl, hr⟩, b1⟩
      obtain ⟨ra, rn, rc, rfl⟩ := hr.form
      have HR : Hid (FreshW (wr.heap.size + 1) W1 (.slice ra rn rc) xws) := by
        have h2 : (wr.alloc (.cells #[.int .i64 xf, .slice xa xn xc] 24)).heap.size = wr.heap.size + 1 := by simp
        rw [← h2]; exact hr
      have HB1 : Hid (Below wr.heap.size wr W1) := ((Below.refl _ _).alloc (Nat.le_refl _) _).trans (b1.mono (by simp))
      have HS1 : Hid (wr.heap.size + 1 ≤ W1.heap.size ∧ w.heap.size ≤ wr.heap.size) := ⟨by have := b1.size; simpa using this, HB.out.size⟩
      clear hr b1 C d0 d1
      have HO1 : Hid ((W1.alloc (.cells #[.int .i64 xf, .slice ra rn rc] 24)).ownsRow w.heap.size 24 2 (.slice A k c) k (cellsT L)) := own_below (own_below HO.out HB1.out) ((Below.refl _ _).alloc (Nat.le_refl _) _)
      have RD : Hid (Reads (W1.alloc (.cells #[.int .i64 xf, .slice ra rn rc] 24)) (W1.heap.size + 1) 2 (some ⟨W1.heap.size, 0, none⟩) 1 [.int .i64 xf, .slice ra rn rc]) := ⟨rfl, fun _ => ⟨_, rfl, by simp, fun j u hu => by
        match j, hu with
        | 0, hu => simp at hu; subst hu; rw [Addr.add_lit]; simp
        | 1, hu => simp at hu; subst hu; rw [Addr.add_lit]; simp
        | j + 2, hu => simp at hu⟩⟩
      go_wp2_with (at_builtin; refine wpList_append_any _ rfl _ _ 44 rfl w.heap.size 24 i0 (.agg #[.int .i64 0, .slice none 0 0]) 2 32 Try.underlying44 hi hz0 hz1 hz2 rfl (by decide) _ _ _ rfl HO1.out (W1.heap.size + 1) (some ⟨W1.heap.size, 0, none⟩) 1 1 [.int .i64 xf, .slice ra rn rc] rfl RD.out ?c2 ?c3 ?c4 ?c5 ?_)
      try (case c2 => first | exact ⟨rfl, rfl⟩ | (intro u hu; simp at hu; rcases hu with rfl | rfl <;> rfl))
      case c3 => have h1 := HX.out; have h2 := HM.out; unfold maxLen; omega
      case c4 => have h1 := HX.out; have h2 := HM.out; omega
      case c5 => have := HS1.out; simp; omega
      intro v' w2 hown hgrow hblk
      obtain ⟨A', c', rfl⟩ := frown_form hown
      have HF : Hid (w2.ownsRow w.heap.size 24 2 (.slice A' (k + 1) c') (k + 1) (cellsT (L ++ [(⟨xf, xws⟩, .slice ra rn rc)])) ∧ (L ++ [((⟨xf, xws⟩ : MT), Value.slice ra rn rc)]).map (·.1) = ts.take (k + 1)) := by
        refine ⟨by rw [cellsT_app]; exact hown, ?_⟩
        rw [HT.out, List.map_append, HL.out]; rfl
      have HLT := HO1.out.lt
      have HLO := HO.out.lt
      have HG2 : Hid (∀ q ∈ L ++ [((⟨xf, xws⟩ : MT), Value.slice ra rn rc)], FreshW w.heap.size w2 q.2 q.1.ws ∧ I64 q.1.fr ∧ ∀ g, q.2.ownBlock = some g → (Value.slice A' (k + 1) c').ownBlock ≠ some g) := by
        have key : ∀ (q : MT × Value), FreshW w.heap.size W1 q.2 q.1.ws → I64 q.1.fr → (∀ g, q.2.ownBlock = some g → (Value.slice A k c).ownBlock ≠ some g) → FreshW w.heap.size w2 q.2 q.1.ws ∧ I64 q.1.fr ∧ ∀ g, q.2.ownBlock = some g → (Value.slice A' (k + 1) c').ownBlock ≠ some g := by
          intro q hf hI hne
          refine ⟨hf.same fun g hg => ?_, hI, fun g hg => ?_⟩
          · have hlt := (hf.lt g hg).2
            have h1 := hgrow.block g (by simp <;> omega) (fun e => hne g hg e.symm)
            rw [h1]
            exact ((Below.refl _ _).alloc (Nat.le_refl _) _).block g hlt
          · rcases hblk with h1 | h1
            · rw [h1]; exact hne g hg
            · rw [h1]
              intro e
              injection e with e
              have := (hf.lt g hg).2
              (try simp at e)
              omega
        intro q hqm
        rcases List.mem_append.1 hqm with h1 | h1
        · obtain ⟨f1, f2, f3⟩ := HQ.out q h1
          exact key q (f1.below HB1.out) f2 f3
        · simp at h1
          subst h1
          refine key _ (HR.out.base (by have := HS1.out; omega)) HXI.out (fun g hg e => ?_)
          have h2 := (HR.out.lt g hg).1
          have h3 := (HLO g e).2
          omega
      have HB2 : Hid (Below w.heap.size w w2) := by
        have h1 : Below w.heap.size w (W1.alloc (.cells #[.int .i64 xf, .slice ra rn rc] 24)) := (HB.out.trans (HB1.out.mono HB.out.size)).alloc (by have := HS1.out; omega) _
        exact h1.grown hgrow (by have := HS1.out; simp; omega) (fun k hk => (HO1.out.lt k hk).1)
      clear hown hgrow hblk HLT HLO
      go_wp2_with fail
      go_roundw
      case rel =>
        have Q : CTRel n ts w (.slice A' (k + 1) c') (.int .i64 ((k : Int) + 1)) w2 := ⟨⟨k + 1, A', c', _, HX.out, by go_num, rfl, HF.out.1, HF.out.2, HG2.out, HB2.out⟩⟩
        first | exact Q | ((repeat apply Exists.intro); exact ⟨Q, rfl⟩)
      case measure => have := HX.out; simp [intOf]; omega
    · have hkI : ¬ (k : Int) < (n : Int) := by omega
      have HF : Hid (TabOwn w.heap.size wr (.slice A k c) ts) := by
        have h1 := HL.out
        rw [List.take_of_length_le (by have := HN.out; omega)] at h1
        exact ⟨k, L, HO.out, h1, fun q hq => ⟨(HQ.out q hq).1, (HQ.out q hq).2.1⟩, by have := HM.out; have := HK.out; unfold rowMax; omega⟩
      go_wp2_with fail
      go_ret
      exact ⟨⟨_, rfl, HF.out⟩, HB.out⟩
end Go.Proofs.Ytcnhghnkocdjkaa
