/-
  WireReads' walk: whatever a reader reads of any bytes, its answers, what is left and its error are the document's.
-/
import Derived.Test.YthcegmijphbhgaaDoorKinds
import Derived.Test.YthcegmijphbhgaaDoorOpens
import Derived.Test.YthcegmijphbhgaaDoorTurns
import Derived.Deep.CutBlock
import Derived.Deep.DeepCutAuto
namespace Go.Proofs.YthcegmijphbhgaaDoor
open Go.RowKit
set_option linter.unusedSimpArgs false
set_option linter.unusedVariables false
/-- A slice of reads as the walk reads it. -/
def ActRow (w : World) (a : Option Addr) (len : Nat) : Prop := 0 < len → ∃ (b off : Nat) (K M : Nat → Int) (T : Nat → Int), a = some ⟨b, off, none⟩ ∧
  ∀ r, r < len → w.cell? ⟨b, off + r * 3, none⟩ = some (.int .i64 (K r)) ∧ w.cell? ⟨b, off + r * 3 + 1, none⟩ = some (.int .i64 (M r)) ∧ w.cell? ⟨b, off + r * 3 + 2, none⟩ = some (.int .u64 (T r)) ∧ M r ≤ 9223372036854775807
/-- The bytes that were handed in are overwritten. -/
structure ZapRel (w : World) (Ab : Option Addr) (cb k g : Nat) (w4 : World) (iv : Value) (wr : World) : Prop where
  ex : ∃ (i : Nat) (m : List Int), i ≤ k ∧ iv = .int .i64 (i : Int) ∧ wr.ownsRow w.heap.size 5 1 (.slice Ab k cb) k (U m) ∧ Past g w4 wr
theorem RdF.past_lt {w W : World} {r x at_ : Nat} {er : Int} {l : List Int} (h : RdF w r at_ er l) (p : Past x w W) (hx : r < x) : RdF W r at_ er l := by
  obtain ⟨A, c, h1, h2, h3, h4, h5, h6, h7, h8, h9, h10⟩ := h.ex
  have hg := p.block r h1 (by omega)
  refine ⟨A, c, Nat.lt_of_lt_of_le h1 p.size, h2, h3, h4, h5, h6.keep fun q hq => ?_, (World.cell?_of_block (a := ⟨r, 0, none⟩) hg).trans h7, (World.cell?_of_block (a := ⟨r, 1, none⟩) hg).trans h8, (World.cell?_of_block (a := ⟨r, 2, none⟩) hg).trans h9, fun o => (World.frozen?_of_block (a := ⟨r, o, none⟩) hg).trans (h10 o)⟩
  exact World.cell?_of_block (p.block q.block (by omega) (by omega))
theorem Reads.past {w W : World} {B n x : Nat} {A : Option Addr} {xs : List Value} (h : Reads w B 1 A n xs) (p : Past x w W) (hx : ∀ ad, A = some ad → ad.block ≠ x) (hB : B ≤ w.heap.size) : Reads W B 1 A n xs := by
  refine ⟨h.1, fun hn => ?_⟩
  obtain ⟨ad, e, hb, hc⟩ := h.2 hn
  exact ⟨ad, e, hb, fun j u hu => (World.cell?_of_block (by rw [block_of_add]; exact p.block _ (by omega) (hx ad e))).trans (hc j u hu)⟩
theorem Past.below {w w' : World} {x B : Nat} (h : Past x w w') (hx : B ≤ x) (hB : B ≤ w.heap.size) : Below B w w' :=
  ⟨h.os, h.tape, h.output, h.size, fun k hk => h.block k (by omega) (by omega)⟩
theorem Past.refl (x : Nat) (w : World) : Past x w w := ⟨rfl, rfl, rfl, Nat.le_refl _, fun _ _ _ => rfl⟩
theorem Past.trans {x : Nat} {w w' w'' : World} (h : Past x w w') (h' : Past x w' w'') : Past x w w'' :=
  ⟨h'.os.trans h.os, h'.tape.trans h.tape, h'.output.trans h.output, Nat.le_trans h.size h'.size, fun k hk hx => (h'.block k (Nat.lt_of_lt_of_le hk h.size) hx).trans (h.block k hk hx)⟩
/-- Between two reads: the reader and the document's are alike. -/
structure ActsRel (w : World) (r bm k len1 : Nat) (A2 : Option Addr) (c2 : Nat) (bl : List Int) (iv : Value) (wr : World) : Prop where
  ex : ∃ (j at_ : Nat) (er : Int), j ≤ 30 ∧ j ≤ len1 ∧ iv = .int .i64 (j : Int) ∧ RdF wr r at_ er bl ∧ Bx wr bm (.slice A2 k c2) (.int .i64 (at_ : Int)) (.int .i64 er) ∧ Reads wr bm 1 A2 k (U bl) ∧ Below w.heap.size w wr
structure ActsCut (w : World) (r bm k : Nat) (A2 : Option Addr) (c2 : Nat) (bl : List Int) (n v s t : Value) (wr : World) : Prop where
  ex : ∃ (at_ : Nat) (er x : Int) (S : ByteArray), n = .int .u64 x ∧ v = .int .u64 x ∧ s = .string S ∧ t = .string S ∧ RdF wr r at_ er bl ∧ Bx wr bm (.slice A2 k c2) (.int .i64 (at_ : Int)) (.int .i64 er) ∧ Reads wr bm 1 A2 k (U bl) ∧ Below w.heap.size w wr
theorem Bx.set3 {w : World} {b : Nat} {v0 v1 v2 : Value} (h : Bx w b v0 v1 v2) (u0 u1 u2 : Value) : Bx (((w.setCell ⟨b, 0, none⟩ u0).setCell ⟨b, 1, none⟩ u1).setCell ⟨b, 2, none⟩ u2) b u0 u1 u2 := by
  have e0 : (w.cell? ⟨b, 0, none⟩).isSome = true := by rw [h.c0]; rfl
  have e1 : ((w.setCell ⟨b, 0, none⟩ u0).cell? ⟨b, 1, none⟩).isSome = true := by rw [World.cell?_setCell_other _ _ _ _ (by simp), h.c1]; rfl
  have e2 : (((w.setCell ⟨b, 0, none⟩ u0).setCell ⟨b, 1, none⟩ u1).cell? ⟨b, 2, none⟩).isSome = true := by rw [World.cell?_setCell_other _ _ _ _ (by simp), World.cell?_setCell_other _ _ _ _ (by simp), h.c2]; rfl
  refine ⟨by simpa [World.setCell] using h.lt, ?_, ?_, World.cell?_setCell_same' _ _ _ e2, fun o => by rw [World.frozen?_setCell, World.frozen?_setCell, World.frozen?_setCell]; exact h.fz o⟩
  · rw [World.cell?_setCell_other _ _ _ _ (by simp), World.cell?_setCell_other _ _ _ _ (by simp), World.cell?_setCell_same' _ _ _ e0]
  · rw [World.cell?_setCell_other _ _ _ _ (by simp), World.cell?_setCell_same' _ _ _ e1]
/-- Behind a read: the document's reader is written. -/
theorem meet3 {w W2 : World} {r bm k : Nat} {A2 : Option Addr} {c2 : Nat} {bl : List Int} {a0 : Nat} {er0 : Int} {v1 v2 : Value} (at_ : Nat) (er x : Int) (S : ByteArray) (RD : RdF W2 r at_ er bl) (BX : Bx W2 bm (.slice A2 k c2) v1 v2) (MB : Reads W2 bm 1 A2 k (U bl)) (BW : Below w.heap.size w W2) (h : w.heap.size ≤ r ∧ r < bm) {n v s t : Value}
    (hn : n = .int .u64 x) (hv : v = .int .u64 x) (hs : s = .string S) (ht : t = .string S) (W3 : World) (h3 : W3 = ((W2.setCell ⟨bm, 0, none⟩ (.slice A2 k c2)).setCell ⟨bm, 1, none⟩ (.int .i64 (at_ : Int))).setCell ⟨bm, 2, none⟩ (.int .i64 er)) : ActsCut w r bm k A2 c2 bl n v s t W3 := by
  subst h3
  have P3 := (((Past.refl bm W2).set 0 (.slice A2 k c2)).set 1 (.int .i64 (at_ : Int))).set 2 (.int .i64 er)
  exact ⟨⟨at_, er, x, S, hn, hv, hs, ht, RD.past_lt P3 h.2, BX.set3 _ _ _, ((MB.setCell (Nat.le_refl _) _).setCell (Nat.le_refl _) _).setCell (Nat.le_refl _) _, ((BW.setCell (by show w.heap.size ≤ bm; omega) _).setCell (by show w.heap.size ≤ bm; omega) _).setCell (by show w.heap.size ≤ bm; omega) _⟩⟩
theorem ActsCut.below {w W W' : World} {r bm k : Nat} {A2 : Option Addr} {c2 : Nat} {bl : List Int} {n v s t : Value} (h : ActsCut w r bm k A2 c2 bl n v s t W) (hb : Below W.heap.size W W') : ActsCut w r bm k A2 c2 bl n v s t W' := by
  obtain ⟨at_, er, x, S, h1, h2, h3, h4, h5, h6, h7, h8⟩ := h.ex
  exact ⟨⟨at_, er, x, S, h1, h2, h3, h4, h5.below hb, h6.below hb, h7.below (hb.mono (Nat.le_of_lt h6.lt)), h8.trans (hb.mono h8.size)⟩⟩
theorem wordV_take (l : List Int) : wordV (l.take 4) = wordV l := by
  simp [wordV, List.getD_eq_getElem?_getD, List.getElem?_take]
/-- A new reader: its bytes lie behind all that was. -/
theorem newReader_far (A : Option Addr) (n c : Nat) (l : List Int) (w : World) (h : Reads w w.heap.size 1 A n (U l)) (hy : Bytes l) (hn : n ≤ 1048576) (hl : l.length = n) :
    Calls Tryd.prog 18 #[.slice A n c] w fun e w' => ∃ r, e = .returned (.pointer (some ⟨r, 0, none⟩)) ∧ w.heap.size ≤ r ∧ r < w'.heap.size ∧ (∀ x W, x < w.heap.size → Past x w' W → RdF W r 0 0 l) ∧ Below w.heap.size w w' := by
  have FR := Lib.hid (fresh_any A n c 0 l w h (by omega))
  have HY := Lib.hid hy
  have HN := Lib.hid hn
  have HL := Lib.hid hl
  clear h hy hn hl
  go_enter Tryd.func18, Tryd.ntmps18
  go_wp2_with fail
  refine FR.out.mono ?_
  rintro e w1 ⟨A1, c1, rfl, ho, hb⟩
  have HO := Lib.hid ho
  have HB := Lib.hid hb
  clear ho hb FR
  go_wp2_with fail
  go_ret
  refine ⟨w1.heap.size, rfl, HB.out.size, by simp, fun x W hx p => ?_, HB.out.alloc HB.out.size _⟩
  have hxs : x < w1.heap.size := by have := HB.out.size; omega
  have hg := p.block w1.heap.size (by simp) (by omega)
  have PW : Past x w1 W := Past.after (B := 0) ((Below.refl w1.heap.size w1).alloc (Nat.le_refl _) _) p
  have RW := reads_past HO.out PW hx
  refine ⟨A1, c1, by have := p.size; simp at this; omega, Nat.zero_le _, by have := HL.out; have := HN.out; omega, ?_, HY.out, ?_, ?_, ?_, ?_, fun o => ?_⟩
  · rw [HL.out]; exact own_capB HO.out
  · rw [HL.out]
    refine ⟨RW.1, fun hn => ?_⟩
    obtain ⟨ad, e, _, hc⟩ := RW.2 hn
    obtain ⟨ad', e', hb', _⟩ := (Reads.of_own HO.out).2 hn
    rw [e] at e'; injection e' with e'; subst e'
    exact ⟨ad, e, hb', hc⟩
  · rw [World.cell?_of_block (a := ⟨w1.heap.size, 0, none⟩) hg, World.cell?_alloc_new, HL.out]; rfl
  · rw [World.cell?_of_block (a := ⟨w1.heap.size, 1, none⟩) hg, World.cell?_alloc_new]; rfl
  · rw [World.cell?_of_block (a := ⟨w1.heap.size, 2, none⟩) hg, World.cell?_alloc_new]; rfl
  · rw [World.frozen?_of_block (a := ⟨w1.heap.size, o, none⟩) hg]; simp
set_option maxRecDepth 100000 in
set_option maxHeartbeats 4000000 in
theorem reads_walk (a : Option Addr) (len cap : Nat) (zs : List Int) (a1 : Option Addr) (len1 cap1 : Nat) (w : World) (h0 : IsRow .u8 w a len cap zs) (h1 : ActRow w a1 len1) (hlen1 : len1 ≤ maxLen) (hl : Laid w) :
    Calls Tryd.prog 5 #[.slice a len cap, .slice a1 len1 cap1] w fun e w' => e = .returned (.bool true) ∧ Below w.heap.size w w' := by
  obtain ⟨i0, hi, hz0, hz1, hz2⟩ := info_parts byte_info
  obtain ⟨k, hk, hk1, hk2⟩ : ∃ k : Nat, min (len : Int) 200 = (k : Int) ∧ k ≤ len ∧ k ≤ 200 := ⟨min len 200, by omega, by omega, by omega⟩
  have hk' : (if (200 : Int) < (len : Int) then (200 : Int) else (len : Int)) = (k : Int) := by rw [← hk]; split <;> omega
  obtain ⟨hr, hy, hlen, hc1, hc2⟩ := reads_row h0 k hk1
  have kc : (k : Int) ≤ (cap : Int) := by omega
  have k0 : (0 : Int) ≤ (k : Int) := by omega
  obtain ⟨bl, hbl⟩ : ∃ bl, zs.take k = bl := ⟨_, rfl⟩
  rw [hbl] at hr hy hlen
  have HR := Lib.hid hr
  have HY := Lib.hid hy
  have HLEN := Lib.hid hlen
  have HL := Lib.hid hl
  have H1 := Lib.hid h1
  have HK : Hid (k ≤ 200) := hk2
  clear hr hy hlen hl h1 hbl h0 hc1 hc2 hk1 hk2
  go_enter Tryd.func5, Tryd.ntmps5
  go_wp2_with (at_builtin; refine wpList_append_any _ rfl (.tmp 16) (.tmp 21) _ rfl w.heap.size 5 i0 _ 1 1 Tryd.underlying22 hi hz0 hz1 hz2 rfl (by omega) (.slice (some ⟨w.heap.size, 0, none⟩) 0 0) 0 (U []) rfl (own_new0 w.heap.size w (Nat.le_refl _)) _ a k cap (U bl) rfl ((HR.out.below ((Below.refl _ _).alloc (Nat.le_refl _) (.cells #[] 5)))) (U_one _) ?c2 ?c3 ?c4 ?_)
  case c2 => have := HK.out; unfold maxLen; omega
  case c3 => have := HK.out; omega
  case c4 => simp
  intro owv w1 owh owg _
  have owh' : w1.ownsRow w.heap.size 5 1 owv k (U bl) := by simpa using owh
  obtain ⟨Ab, cb, hv, ow, b1⟩ := own_of (own_new0 w.heap.size w (Nat.le_refl _)) ((Below.refl _ _).alloc (Nat.le_refl _) _) (by simp) owh' owg
  have hs1 : w.heap.size < w1.heap.size := by have := owg.size; simp at this; omega
  rw [hv]
  clear hv owh owh' owg
  have NR := Lib.hid (newReader_far Ab k cb bl w1 (Reads.of_own ow) HY.out (by have := HK.out; omega) HLEN.out)
  go_wp2_with fail
  refine NR.out.mono ?_
  rintro e w2 ⟨r, rfl, hr1, hr2, hrd, b2⟩
  have HGA : Hid (∃ g, w.heap.size ≤ g ∧ g < w1.heap.size ∧ ∀ ad, Ab = some ad → ad = ⟨g, 0, none⟩) := by
    unfold Hid
    rcases ow.2 with ⟨hv, _⟩ | ⟨g, cap', cur, hv, hgb, _⟩
    · injection hv with hv
      exact ⟨w.heap.size, Nat.le_refl _, hs1, fun ad e => by rw [hv] at e; cases e⟩
    · injection hv with hv
      subst hv
      exact ⟨g, (ow.lt g rfl).1, (ow.lt g rfl).2, fun ad e => by injection e with e; exact e.symm⟩
  have HRD := Lib.hid hrd
  have HR1 := Lib.hid hr1
  have HR2 := Lib.hid hr2
  have OW2 := Lib.hid (own_below ow b2)
  have B2 := Lib.hid (b1.trans (b2.mono b1.size))
  have HS1 := Lib.hid hs1
  clear NR hrd hr1 hr2 ow b1 b2 hs1
  go_wp2_with (at_builtin; refine wpList_append_any _ rfl (.tmp 25) (.tmp 26) _ rfl w2.heap.size 5 i0 _ 1 1 Tryd.underlying22 hi hz0 hz1 hz2 rfl (by omega) (.slice (some ⟨w2.heap.size, 0, none⟩) 0 0) 0 (U []) rfl (own_new0 w2.heap.size w2 (Nat.le_refl _)) _ Ab k cb (U bl) rfl (((Reads.of_own OW2.out).alloc (Nat.le_refl _) (.cells #[] 5))) (U_one _) ?c2 ?c3 ?c4 ?_)
  case c2 => have := HK.out; unfold maxLen; omega
  case c3 => have := HK.out; omega
  case c4 => simp
  intro owv w3 owh owg _
  have owh' : w3.ownsRow w2.heap.size 5 1 owv k (U bl) := by simpa using owh
  obtain ⟨A2, c2, hv, ow3, b3⟩ := own_of (own_new0 w2.heap.size w2 (Nat.le_refl _)) ((Below.refl _ _).alloc (Nat.le_refl _) _) (by simp) owh' owg
  rw [hv]
  clear hv owh owh' owg
  have B3 := Lib.hid b3
  have OW3 := Lib.hid ow3
  clear b3 ow3
  go_wp2_with fail
  obtain ⟨g, hg1, hg2, hgA⟩ := HGA.out
  obtain ⟨bm, hbm⟩ : ∃ bm, w3.heap.size = bm := ⟨_, rfl⟩
  obtain ⟨W4, hW4⟩ : ∃ W4, w3.alloc (.cells #[.slice A2 k c2, .int .i64 0, .int .i64 0] 39) = W4 := ⟨_, rfl⟩
  have Z0 : Hid (Bx W4 bm (.slice A2 k c2) (.int .i64 0) (.int .i64 0)) := by unfold Hid; rw [← hW4, ← hbm]; exact Bx.new w3 _ _ _ 39
  have BA4 : Hid (Below w3.heap.size w3 W4) := by unfold Hid; rw [← hW4]; exact (Below.refl _ _).alloc (Nat.le_refl _) _
  have HA2 : Hid (∀ ad, A2 = some ad → w2.heap.size ≤ ad.block ∧ ad.block < bm) := by
    unfold Hid; intro ad e
    subst e
    have := OW3.out.lt ad.block rfl
    omega
  have MB4 : Hid (Reads W4 bm 1 A2 k (U bl)) := by
    unfold Hid
    have := Reads.of_own OW3.out
    rw [hbm] at this
    exact this.below (by rw [← hbm]; exact BA4.out)
  have B24 : Hid (Below w2.heap.size w2 W4) := B3.out.trans (BA4.out.mono B3.out.size)
  have HS2 : Hid (w.heap.size ≤ w1.heap.size ∧ w1.heap.size ≤ r ∧ r < w2.heap.size ∧ w2.heap.size ≤ bm ∧ bm < W4.heap.size) := by
    have h1 := HS1.out; have h2 := HR1.out; have h3 := HR2.out; have h4 := B3.out.size; have h5 := Z0.out.lt
    unfold Hid; omega
  have HG := Lib.hid (And.intro hg1 (And.intro hg2 hgA))
  have HBM := Lib.hid hbm
  rw [hW4, hbm]
  clear hW4 hbm hg1 hg2 hgA
  go_loopw [7] (fun i wx => ZapRel w Ab cb k g W4 i wx) (fun i _ => 200 - (intOf i).toNat)
  case atStart => exact ⟨⟨0, bl, Nat.zero_le _, rfl, own_below OW2.out B24.out, Past.refl _ _⟩⟩
  case round =>
    obtain ⟨⟨i, m, hi, rfl, ho, hp⟩⟩ := hrel
    have HP := Lib.hid hp
    clear hp
    by_cases hlt : i < k
    · obtain rfl : Ab = some ⟨g, 0, none⟩ := by
        rcases ho.2 with ⟨_, hn⟩ | ⟨g', cap', cur, hv, _⟩
        · omega
        · injection hv with hv
          rw [hv, HG.out.2.2 _ hv]
      obtain ⟨v, hv⟩ : ∃ v, Hid (m.getD i 0 = v) := ⟨_, rfl⟩
      have hcell : wr.cell? ⟨g, i, none⟩ = some (.int .u8 v) := cell_of ho i hlt hv.out
      have hfr := ho.frozenAt i
      have hi7 := stored_u ho i 7
      have HI := Lib.hid hi7
      have hkI : Hid (i < 200) := by have := HK.out; unfold Hid; omega
      have hltI : (i : Int) < (k : Int) := by omega
      clear hi7 ho hi
      go_wp2_with fail
      go_roundw
      case rel => exact ⟨⟨i + 1, _, hlt, by go_num, HI.out, HP.out.set i _⟩⟩
      case measure => have := hkI.out; simp [intOf]; omega
    · have hltI : ¬ (i : Int) < (k : Int) := by omega
      go_wp2_with fail
      have RD : RdF wr r 0 0 bl := HRD.out g wr HG.out.2.1 (Past.after (B := 0) B24.out HP.out)
      have BX : Bx wr bm (.slice A2 k c2) (.int .i64 0) (.int .i64 0) := Z0.out.past HP.out (by have := HS2.out; have := HG.out.2.1; omega)
      have MB : Reads wr bm 1 A2 k (U bl) := MB4.out.past HP.out (fun ad e => by have := HA2.out ad e; have := HS2.out; have := HG.out.2.1; omega) (by have := HS2.out; omega)
      have BW : Below w.heap.size w wr := (B2.out.trans (B24.out.mono B2.out.size)).trans (HP.out.below HG.out.1 (by have := HS2.out; omega))
      have HA : Hid (∀ ad, A2 = some ad → r < ad.block ∧ ad.block < bm) := by
        unfold Hid; intro ad e; have := HA2.out ad e; have := HS2.out; omega
      have HB : Hid (w.heap.size ≤ r ∧ r < bm) := by have := HS2.out; unfold Hid; omega
      have HK2 : Hid (k ≤ c2) := own_capB OW3.out
      clear ho hi HP Z0 MB4 B24 BA4 B3 OW3 OW2 HRD B2 HR HGA HG HA2 hltI hlt
      go_loopw [8] (fun i wx => ActsRel w r bm k len1 A2 c2 bl i wx) (fun i _ => 30 - (intOf i).toNat)
      case atStart => exact ⟨⟨0, 0, 0, by omega, by omega, rfl, RD, BX, MB, BW⟩⟩
      case round =>
        clear RD BX MB BW
        obtain ⟨⟨j, at_, er, hj, hj1, rfl, RD, BX, MB, BW⟩⟩ := hrel
        by_cases hlt : j < len1
        · by_cases h30 : j < 30
          · obtain ⟨b, off, Kf, Mf, Tf, rfl, hc⟩ := H1.out (by omega)
            obtain ⟨c0, c1, c2', hM⟩ := hc j hlt
            obtain ⟨kj, hkj⟩ : ∃ x, Kf j = x := ⟨_, rfl⟩
            obtain ⟨mj, hmj⟩ : ∃ x, Mf j = x := ⟨_, rfl⟩
            obtain ⟨tj, htj⟩ : ∃ x, Tf j = x := ⟨_, rfl⟩
            rw [hkj] at c0
            rw [hmj] at c1 hM
            rw [htj] at c2'
            have d0 := cell_later BW c0
            have d1 := cell_later BW c1
            have d2 := cell_later BW c2'
            have HRD := Lib.hid RD
            have HBX := Lib.hid BX
            have HMB := Lib.hid MB
            have HBW := Lib.hid BW
            have HM := Lib.hid hM
            clear RD BX MB BW hc hkj hmj htj c0 c1 c2' hM
            have h30I : (j : Int) < 30 := by omega
            have hltI : (j : Int) < (len1 : Int) := by omega
            go_upto_block 4 with fail
            have BAct : Below wr.heap.size wr (wr.alloc (.cells #[.int .i64 kj, .int .i64 mj, .int .u64 tj] 41)) := (Below.refl _ _).alloc (Nat.le_refl _) _
            obtain ⟨W0, hW0⟩ : ∃ W0, wr.alloc (.cells #[.int .i64 kj, .int .i64 mj, .int .u64 tj] 41) = W0 := ⟨_, rfl⟩
            have AX : Bx W0 wr.heap.size (.int .i64 kj) (.int .i64 mj) (.int .u64 tj) := by rw [← hW0]; exact Bx.new wr _ _ _ 41
            rw [hW0] at BAct ⊢
            obtain ⟨ab, hab⟩ : ∃ ab, wr.heap.size = ab := ⟨_, rfl⟩
            have hba : Hid (bm < ab ∧ w.heap.size ≤ ab) := by have h1 := HBX.out.lt; have h2 := HBW.out.size; unfold Hid; omega
            have HRD0 := Lib.hid (HRD.out.below BAct)
            have HBX0 := Lib.hid (HBX.out.below BAct)
            have HMB0 := Lib.hid (HMB.out.below (BAct.mono (Nat.le_of_lt HBX.out.lt)))
            have HBW0 := Lib.hid (HBW.out.trans (BAct.mono HBW.out.size))
            rw [hab] at AX
            simp only [hab]
            have HAX := Lib.hid AX
            have x0 := AX.c0
            have x1 := AX.c1
            have x2 := AX.c2
            clear hW0 hab BAct AX HRD HBX HMB HBW d0 d1 d2
            go_cut [10, 11, 12, 13] (fun n v s t wx => ActsCut w r bm k A2 c2 bl n v s t wx)
            case first =>
              have hat : Hid (at_ ≤ k ∧ k ≤ 200) := by
                obtain ⟨_, _, _, h2, _⟩ := HRD0.out.ex
                rw [HLEN.out] at h2
                have := HK.out
                unfold Hid; omega
              by_cases e0 : kj = 0
              · subst e0
                by_cases G : er = 0 ∧ at_ + 1 ≤ k
                · obtain ⟨rfl, G⟩ := G
                  obtain ⟨xv, hxv⟩ : ∃ xv, bl.getD at_ 0 = xv := ⟨_, rfl⟩
                  have BB := Lib.hid (byte_good W0 r at_ bl HRD0.out (by rw [HLEN.out]; exact G))
                  have TG := Lib.hid fun (W : World) (h : Reads W W.heap.size 1 A2 k (U bl)) => rtake_good A2 k c2 at_ 1 bl W h HLEN.out (by have := hat.out; omega) HK2.out G
                  have hx1 : (bl.drop at_).take 1 = [xv] := by
                    rw [← hxv, List.getD_eq_getElem?_getD, List.getElem?_eq_getElem (by rw [HLEN.out]; exact G), List.drop_eq_getElem_cons (by rw [HLEN.out]; exact G)]
                    rfl
                  have hxb := HY.out at_ (by rw [HLEN.out]; exact G)
                  rw [hxv] at BB hxb
                  rw [hx1] at TG
                  obtain ⟨hxb0, hxb1⟩ := hxb
                  have hwx : IntKind.u64.wrap xv = xv := by rw [IntKind.wrap_u64]; omega
                  clear hx1 hxv G
                  go_wp2_with fail
                  refine (BB.out).mono ?_
                  rintro e W1 ⟨rfl, RD1, P1⟩
                  have BX1 := HBX0.out.past P1 (by have := HB.out; omega)
                  have AX1 := HAX.out.past P1 (by have := HB.out; have := hba.out; omega)
                  have b0 := BX1.c0
                  have b1 := BX1.c1
                  have b2 := BX1.c2
                  have a0 := AX1.c0
                  have a1 := AX1.c1
                  have a2 := AX1.c2
                  have HRD1 := Lib.hid RD1
                  have HBX1 := Lib.hid BX1
                  have HMB1 := Lib.hid (HMB0.out.past P1 (fun ad e => by have := HA.out ad e; omega) (by have := HBX0.out.lt; omega))
                  have HBW1 := Lib.hid (HBW0.out.trans (P1.below HB.out.1 HBW0.out.size))
                  clear RD1 BX1 AX1 P1 x0 x1 x2
                  clear BB
                  go_wp2_with fail
                  refine (TG.out _ (HMB1.out.more (Nat.le_of_lt HBX1.out.lt))).mono ?_
                  rintro e W2 ⟨X, cx, rfl, hox, B2⟩
                  have BX2 := HBX1.out.below B2
                  have b0 := BX2.c0
                  have b1 := BX2.c1
                  have b2 := BX2.c2
                  have bf := BX2.fz
                  have HRD2 := Lib.hid (HRD1.out.below B2)
                  have HBX2 := Lib.hid BX2
                  have HMB2 := Lib.hid (HMB1.out.below (B2.mono (by have := HBX1.out.lt; omega)))
                  have HBW2 := Lib.hid (HBW1.out.trans (B2.mono HBW1.out.size))
                  obtain ⟨gx, hgx⟩ : ∃ gx, X = some ⟨gx, 0, none⟩ := by
                    rcases hox.2 with ⟨_, hn⟩ | ⟨g', cap', cur, hv, _⟩
                    · omega
                    · injection hv with hv; exact ⟨g', hv⟩
                  subst hgx
                  have cx0 : W2.cell? ⟨gx, 0, none⟩ = some (.int .u8 xv) := by have := hox.cellAt 0 (by omega); simpa using this
                  have gxb : gx ≠ bm := by have := (hox.lt gx rfl).1; have := HBX1.out.lt; omega
                  clear hox
                  clear BX2 B2 a0 a1 a2
                  clear TG
                  go_wp2_with fail
                  go_meet
                  exact meet3 (a0 := 0) (er0 := 0) (at_ + 1) (0) (xv) (⟨#[]⟩) HRD2.out HBX2.out HMB2.out HBW2.out HB.out rfl rfl rfl rfl _ (by first | rfl | simp)
                · have BB := Lib.hid (byte_bad W0 r at_ er bl HRD0.out (by rw [HLEN.out]; exact G))
                  have TB := Lib.hid fun (W : World) => take_bad A2 k c2 at_ 1 er W (by have := hat.out; omega) hat.out.1 G
                  clear G
                  go_wp2_with fail
                  refine (BB.out).mono ?_
                  rintro e W1 ⟨rfl, RD1, P1⟩
                  have BX1 := HBX0.out.past P1 (by have := HB.out; omega)
                  have AX1 := HAX.out.past P1 (by have := HB.out; have := hba.out; omega)
                  have b0 := BX1.c0
                  have b1 := BX1.c1
                  have b2 := BX1.c2
                  have a0 := AX1.c0
                  have a1 := AX1.c1
                  have a2 := AX1.c2
                  have HRD1 := Lib.hid RD1
                  have HBX1 := Lib.hid BX1
                  have HMB1 := Lib.hid (HMB0.out.past P1 (fun ad e => by have := HA.out ad e; omega) (by have := HBX0.out.lt; omega))
                  have HBW1 := Lib.hid (HBW0.out.trans (P1.below HB.out.1 HBW0.out.size))
                  clear RD1 BX1 AX1 P1 x0 x1 x2
                  clear BB
                  go_wp2_with fail
                  refine (TB.out _).mono ?_
                  rintro e W2 ⟨rfl, B2⟩
                  have BX2 := HBX1.out.below B2
                  have b0 := BX2.c0
                  have b1 := BX2.c1
                  have b2 := BX2.c2
                  have bf := BX2.fz
                  have HRD2 := Lib.hid (HRD1.out.below B2)
                  have HBX2 := Lib.hid BX2
                  have HMB2 := Lib.hid (HMB1.out.below (B2.mono (by have := HBX1.out.lt; omega)))
                  have HBW2 := Lib.hid (HBW1.out.trans (B2.mono HBW1.out.size))
                  clear BX2 B2 a0 a1 a2
                  clear TB
                  go_wp2_with fail
                  go_meet
                  exact meet3 (a0 := 0) (er0 := 0) (at_) (failE er) (0) (⟨#[]⟩) HRD2.out HBX2.out HMB2.out HBW2.out HB.out rfl rfl rfl rfl _ rfl
              · by_cases e1 : kj = 1
                · subst e1
                  clear e0
                  by_cases G : er = 0 ∧ at_ + 4 ≤ k
                  · obtain ⟨rfl, G⟩ := G
                    have BB := Lib.hid (word_good W0 r at_ bl HRD0.out (by rw [HLEN.out]; exact G))
                    have TG := Lib.hid fun (W : World) (h : Reads W W.heap.size 1 A2 k (U bl)) => rtake_good A2 k c2 at_ 4 bl W h HLEN.out (by have := hat.out; omega) HK2.out G
                    have HL4 : Hid (((bl.drop at_).take 4).length = 4) := by unfold Hid; rw [List.length_take, List.length_drop, HLEN.out]; omega
                    have HY4 := Lib.hid (bytes_take (bytes_drop HY.out at_) 4)
                    have hwx := wordV_wrap ((bl.drop at_).take 4) HY4.out (by rw [HL4.out]; exact Nat.le_refl _)
                    have OF := Lib.hid fun (X : Option Addr) (cx : Nat) (W : World) (h : Reads W W.heap.size 1 X 4 (U ((bl.drop at_).take 4))) => of_any X 4 cx ((bl.drop at_).take 4) W _ h (Nat.le_refl _) HY4.out
                    obtain ⟨xv, hxv⟩ : ∃ xv, wordV (bl.drop at_) = xv := ⟨_, rfl⟩
                    rw [wordV_take, hxv] at OF hwx
                    rw [hxv] at BB
                    obtain ⟨L4, hL4⟩ : ∃ L4, (bl.drop at_).take 4 = L4 := ⟨_, rfl⟩
                    rw [hL4] at OF TG
                    clear hxv hL4 HL4 HY4 G
                    go_wp2_with fail
                    refine (BB.out).mono ?_
                    rintro e W1 ⟨rfl, RD1, P1⟩
                    have BX1 := HBX0.out.past P1 (by have := HB.out; omega)
                    have AX1 := HAX.out.past P1 (by have := HB.out; have := hba.out; omega)
                    have b0 := BX1.c0
                    have b1 := BX1.c1
                    have b2 := BX1.c2
                    have a0 := AX1.c0
                    have a1 := AX1.c1
                    have a2 := AX1.c2
                    have HRD1 := Lib.hid RD1
                    have HBX1 := Lib.hid BX1
                    have HMB1 := Lib.hid (HMB0.out.past P1 (fun ad e => by have := HA.out ad e; omega) (by have := HBX0.out.lt; omega))
                    have HBW1 := Lib.hid (HBW0.out.trans (P1.below HB.out.1 HBW0.out.size))
                    clear RD1 BX1 AX1 P1 x0 x1 x2
                    clear BB
                    go_wp2_with fail
                    refine (TG.out _ (HMB1.out.more (Nat.le_of_lt HBX1.out.lt))).mono ?_
                    rintro e W2 ⟨X, cx, rfl, hox, B2⟩
                    have BX2 := HBX1.out.below B2
                    have b0 := BX2.c0
                    have b1 := BX2.c1
                    have b2 := BX2.c2
                    have bf := BX2.fz
                    have HRD2 := Lib.hid (HRD1.out.below B2)
                    have HBX2 := Lib.hid BX2
                    have HMB2 := Lib.hid (HMB1.out.below (B2.mono (by have := HBX1.out.lt; omega)))
                    have HBW2 := Lib.hid (HBW1.out.trans (B2.mono HBW1.out.size))
                    have HRX := Lib.hid (Reads.of_own hox)
                    have hox' := own_setAway (own_setAway (own_setAway hox bm 0 (by have := HBX1.out.lt; omega) (.slice A2 k c2)) bm 1 (by have := HBX1.out.lt; omega) (.int .i64 ((at_ : Int) + 4))) bm 2 (by have := HBX1.out.lt; omega) (.int .i64 0)
                    have HRX := Lib.hid (Reads.of_own hox')
                    clear hox hox'
                    clear BX2 B2 a0 a1 a2
                    clear TG
                    go_wp2_with fail
                    refine (OF.out X cx _ HRX.out).mono ?_
                    rintro e W3 ⟨rfl, B3⟩
                    have HB3 := Lib.hid B3
                    clear B3 OF HRX
                    go_wp2_with fail
                    go_meet
                    exact (meet3 (a0 := 0) (er0 := 0) (at_ + 4) 0 xv ⟨#[]⟩ HRD2.out HBX2.out HMB2.out HBW2.out HB.out rfl rfl rfl rfl _ (by first | rfl | simp)).below HB3.out
                  · have BB := Lib.hid (word_bad W0 r at_ er bl HRD0.out (by rw [HLEN.out]; exact G))
                    have TB := Lib.hid fun (W : World) => take_bad A2 k c2 at_ 4 er W (by have := hat.out; omega) hat.out.1 G
                    clear G
                    go_wp2_with fail
                    refine (BB.out).mono ?_
                    rintro e W1 ⟨rfl, RD1, P1⟩
                    have BX1 := HBX0.out.past P1 (by have := HB.out; omega)
                    have AX1 := HAX.out.past P1 (by have := HB.out; have := hba.out; omega)
                    have b0 := BX1.c0
                    have b1 := BX1.c1
                    have b2 := BX1.c2
                    have a0 := AX1.c0
                    have a1 := AX1.c1
                    have a2 := AX1.c2
                    have HRD1 := Lib.hid RD1
                    have HBX1 := Lib.hid BX1
                    have HMB1 := Lib.hid (HMB0.out.past P1 (fun ad e => by have := HA.out ad e; omega) (by have := HBX0.out.lt; omega))
                    have HBW1 := Lib.hid (HBW0.out.trans (P1.below HB.out.1 HBW0.out.size))
                    clear RD1 BX1 AX1 P1 x0 x1 x2
                    clear BB
                    go_wp2_with fail
                    refine (TB.out _).mono ?_
                    rintro e W2 ⟨rfl, B2⟩
                    have BX2 := HBX1.out.below B2
                    have b0 := BX2.c0
                    have b1 := BX2.c1
                    have b2 := BX2.c2
                    have bf := BX2.fz
                    have HRD2 := Lib.hid (HRD1.out.below B2)
                    have HBX2 := Lib.hid BX2
                    have HMB2 := Lib.hid (HMB1.out.below (B2.mono (by have := HBX1.out.lt; omega)))
                    have HBW2 := Lib.hid (HBW1.out.trans (B2.mono HBW1.out.size))
                    clear BX2 B2 a0 a1 a2
                    clear TB
                    go_wp2_with fail
                    go_meet
                    exact meet3 (a0 := 0) (er0 := 0) (at_) (failE er) (0) (⟨#[]⟩) HRD2.out HBX2.out HMB2.out HBW2.out HB.out rfl rfl rfl rfl _ rfl
                · by_cases e2 : kj = 2
                  · subst e2
                    clear e0 e1
                    by_cases G : er = 0
                    · subst G
                      have VA := var_any W0 r at_ 0 bl tj HRD0.out
                      simp only [if_true] at VA
                      have NB := Lib.hid fun (W : World) (h : Reads W W.heap.size 1 A2 k (U bl)) => rnum_ok A2 k c2 at_ tj bl W h HLEN.out HY.out (by have := hat.out; omega) HK2.out hat.out.1
                      obtain ⟨bv, hbv⟩ : ∃ bv, boundV tj (bl.drop at_) = bv := ⟨_, rfl⟩
                      obtain ⟨bk, hbk⟩ : ∃ bk, boundK tj (bl.drop at_) = bk := ⟨_, rfl⟩
                      obtain ⟨br, hbr⟩ : ∃ br, boundR tj (bl.drop at_) = br := ⟨_, rfl⟩
                      rw [hbv, hbk, hbr] at VA NB
                      have BB := Lib.hid VA
                      clear VA hbv hbk hbr
                      go_wp2_with fail
                      refine (BB.out).mono ?_
                      rintro e W1 ⟨rfl, RD1, P1⟩
                      have BX1 := HBX0.out.past P1 (by have := HB.out; omega)
                      have AX1 := HAX.out.past P1 (by have := HB.out; have := hba.out; omega)
                      have b0 := BX1.c0
                      have b1 := BX1.c1
                      have b2 := BX1.c2
                      have a0 := AX1.c0
                      have a1 := AX1.c1
                      have a2 := AX1.c2
                      have HRD1 := Lib.hid RD1
                      have HBX1 := Lib.hid BX1
                      have HMB1 := Lib.hid (HMB0.out.past P1 (fun ad e => by have := HA.out ad e; omega) (by have := HBX0.out.lt; omega))
                      have HBW1 := Lib.hid (HBW0.out.trans (P1.below HB.out.1 HBW0.out.size))
                      clear RD1 BX1 AX1 P1 x0 x1 x2
                      clear BB
                      go_wp2_with fail
                      refine (NB.out _ (HMB1.out.more (Nat.le_of_lt HBX1.out.lt))).mono ?_
                      rintro e W2 ⟨rfl, B2⟩
                      have BX2 := HBX1.out.below B2
                      have b0 := BX2.c0
                      have b1 := BX2.c1
                      have b2 := BX2.c2
                      have bf := BX2.fz
                      have HRD2 := Lib.hid (HRD1.out.below B2)
                      have HBX2 := Lib.hid BX2
                      have HMB2 := Lib.hid (HMB1.out.below (B2.mono (by have := HBX1.out.lt; omega)))
                      have HBW2 := Lib.hid (HBW1.out.trans (B2.mono HBW1.out.size))
                      clear BX2 B2 a0 a1 a2
                      clear NB
                      go_wp2_with fail
                      go_meet
                      exact meet3 (a0 := 0) (er0 := 0) (at_ + bk) (br) (bv) (⟨#[]⟩) HRD2.out HBX2.out HMB2.out HBW2.out HB.out rfl rfl rfl rfl _ (by first | rfl | simp)
                    · have VA := var_any W0 r at_ er bl tj HRD0.out
                      simp only [if_neg G] at VA
                      have NB := Lib.hid fun (W : World) => rnum_err A2 k c2 (at_ : Int) er tj W G
                      have BB := Lib.hid VA
                      clear VA G
                      go_wp2_with fail
                      refine (BB.out).mono ?_
                      rintro e W1 ⟨rfl, RD1, P1⟩
                      have BX1 := HBX0.out.past P1 (by have := HB.out; omega)
                      have AX1 := HAX.out.past P1 (by have := HB.out; have := hba.out; omega)
                      have b0 := BX1.c0
                      have b1 := BX1.c1
                      have b2 := BX1.c2
                      have a0 := AX1.c0
                      have a1 := AX1.c1
                      have a2 := AX1.c2
                      have HRD1 := Lib.hid RD1
                      have HBX1 := Lib.hid BX1
                      have HMB1 := Lib.hid (HMB0.out.past P1 (fun ad e => by have := HA.out ad e; omega) (by have := HBX0.out.lt; omega))
                      have HBW1 := Lib.hid (HBW0.out.trans (P1.below HB.out.1 HBW0.out.size))
                      clear RD1 BX1 AX1 P1 x0 x1 x2
                      clear BB
                      go_wp2_with fail
                      refine (NB.out _).mono ?_
                      rintro e W2 ⟨rfl, B2⟩
                      have BX2 := HBX1.out.below B2
                      have b0 := BX2.c0
                      have b1 := BX2.c1
                      have b2 := BX2.c2
                      have bf := BX2.fz
                      have HRD2 := Lib.hid (HRD1.out.below B2)
                      have HBX2 := Lib.hid BX2
                      have HMB2 := Lib.hid (HMB1.out.below (B2.mono (by have := HBX1.out.lt; omega)))
                      have HBW2 := Lib.hid (HBW1.out.trans (B2.mono HBW1.out.size))
                      clear BX2 B2 a0 a1 a2
                      clear NB
                      go_wp2_with fail
                      go_meet
                      exact meet3 (a0 := 0) (er0 := 0) (at_) (er) (0) (⟨#[]⟩) HRD2.out HBX2.out HMB2.out HBW2.out HB.out rfl rfl rfl rfl _ rfl
                  · by_cases e3 : kj = 3
                    · subst e3
                      clear e0 e1 e2
                      by_cases G : er = 0
                      · subst G
                        have VA := text_any W0 r at_ 0 bl mj HM.out HRD0.out
                        simp only [if_true] at VA
                        have NB := Lib.hid fun (W : World) (h : Reads W W.heap.size 1 A2 k (U bl)) => rstr_ok A2 k c2 at_ mj bl W HM.out h HLEN.out HY.out (by have := hat.out; omega) HK2.out hat.out.1
                        obtain ⟨bv, hbv⟩ : ∃ bv, textV mj (bl.drop at_) = bv := ⟨_, rfl⟩
                        obtain ⟨bk, hbk⟩ : ∃ bk, textK mj (bl.drop at_) = bk := ⟨_, rfl⟩
                        obtain ⟨br, hbr⟩ : ∃ br, textR mj (bl.drop at_) = br := ⟨_, rfl⟩
                        rw [hbv, hbk, hbr] at VA NB
                        have BB := Lib.hid VA
                        clear VA hbv hbk hbr
                        go_wp2_with fail
                        refine (BB.out).mono ?_
                        rintro e W1 ⟨rfl, RD1, P1⟩
                        have BX1 := HBX0.out.past P1 (by have := HB.out; omega)
                        have AX1 := HAX.out.past P1 (by have := HB.out; have := hba.out; omega)
                        have b0 := BX1.c0
                        have b1 := BX1.c1
                        have b2 := BX1.c2
                        have a0 := AX1.c0
                        have a1 := AX1.c1
                        have a2 := AX1.c2
                        have HRD1 := Lib.hid RD1
                        have HBX1 := Lib.hid BX1
                        have HMB1 := Lib.hid (HMB0.out.past P1 (fun ad e => by have := HA.out ad e; omega) (by have := HBX0.out.lt; omega))
                        have HBW1 := Lib.hid (HBW0.out.trans (P1.below HB.out.1 HBW0.out.size))
                        clear RD1 BX1 AX1 P1 x0 x1 x2
                        clear BB
                        go_wp2_with fail
                        refine (NB.out _ (HMB1.out.more (Nat.le_of_lt HBX1.out.lt))).mono ?_
                        rintro e W2 ⟨rfl, B2⟩
                        have BX2 := HBX1.out.below B2
                        have b0 := BX2.c0
                        have b1 := BX2.c1
                        have b2 := BX2.c2
                        have bf := BX2.fz
                        have HRD2 := Lib.hid (HRD1.out.below B2)
                        have HBX2 := Lib.hid BX2
                        have HMB2 := Lib.hid (HMB1.out.below (B2.mono (by have := HBX1.out.lt; omega)))
                        have HBW2 := Lib.hid (HBW1.out.trans (B2.mono HBW1.out.size))
                        clear BX2 B2 a0 a1 a2
                        clear NB
                        go_wp2_with fail
                        go_meet
                        exact meet3 (a0 := 0) (er0 := 0) (at_ + bk) (br) (0) (bv) HRD2.out HBX2.out HMB2.out HBW2.out HB.out rfl rfl rfl rfl _ (by first | rfl | simp)
                      · have VA := text_any W0 r at_ er bl mj HM.out HRD0.out
                        simp only [if_neg G] at VA
                        have NB := Lib.hid fun (W : World) => rstr_err A2 k c2 (at_ : Int) er mj W (by have := HM.out; omega) G
                        have BB := Lib.hid VA
                        clear VA G
                        go_wp2_with fail
                        refine (BB.out).mono ?_
                        rintro e W1 ⟨rfl, RD1, P1⟩
                        have BX1 := HBX0.out.past P1 (by have := HB.out; omega)
                        have AX1 := HAX.out.past P1 (by have := HB.out; have := hba.out; omega)
                        have b0 := BX1.c0
                        have b1 := BX1.c1
                        have b2 := BX1.c2
                        have a0 := AX1.c0
                        have a1 := AX1.c1
                        have a2 := AX1.c2
                        have HRD1 := Lib.hid RD1
                        have HBX1 := Lib.hid BX1
                        have HMB1 := Lib.hid (HMB0.out.past P1 (fun ad e => by have := HA.out ad e; omega) (by have := HBX0.out.lt; omega))
                        have HBW1 := Lib.hid (HBW0.out.trans (P1.below HB.out.1 HBW0.out.size))
                        clear RD1 BX1 AX1 P1 x0 x1 x2
                        clear BB
                        go_wp2_with fail
                        refine (NB.out _).mono ?_
                        rintro e W2 ⟨rfl, B2⟩
                        have BX2 := HBX1.out.below B2
                        have b0 := BX2.c0
                        have b1 := BX2.c1
                        have b2 := BX2.c2
                        have bf := BX2.fz
                        have HRD2 := Lib.hid (HRD1.out.below B2)
                        have HBX2 := Lib.hid BX2
                        have HMB2 := Lib.hid (HMB1.out.below (B2.mono (by have := HBX1.out.lt; omega)))
                        have HBW2 := Lib.hid (HBW1.out.trans (B2.mono HBW1.out.size))
                        clear BX2 B2 a0 a1 a2
                        clear NB
                        go_wp2_with fail
                        go_meet
                        exact meet3 (a0 := 0) (er0 := 0) (at_) (er) (0) (⟨#[]⟩) HRD2.out HBX2.out HMB2.out HBW2.out HB.out rfl rfl rfl rfl _ rfl
                    · have f0 : (kj == 0) = false := by rw [beq_eq_false_iff_ne]; exact e0
                      have f1 : (kj == 1) = false := by rw [beq_eq_false_iff_ne]; exact e1
                      have f2 : (kj == 2) = false := by rw [beq_eq_false_iff_ne]; exact e2
                      have f3 : (kj == 3) = false := by rw [beq_eq_false_iff_ne]; exact e3
                      clear e0 e1 e2 e3
                      go_wp2_with fail
                      go_meet
                      exact ⟨⟨at_, er, 0, ⟨#[]⟩, rfl, rfl, rfl, rfl, HRD0.out, HBX0.out, HMB0.out, HBW0.out⟩⟩
            case rest =>
              rename World => wx
              obtain ⟨⟨atn, ern, x, S, rfl, rfl, rfl, rfl, RD, BX, MB, BW⟩⟩ := hcut
              clear HRD0 HBX0 HMB0 HBW0 HAX x0 x1 x2
              have hat : Hid (atn ≤ k ∧ k ≤ 200) := by
                obtain ⟨_, _, _, h2, _⟩ := RD.ex
                rw [HLEN.out] at h2
                have := HK.out
                unfold Hid; omega
              have HRD := Lib.hid RD
              have HBX := Lib.hid BX
              have HMB := Lib.hid MB
              have HBW := Lib.hid BW
              have b0 := BX.c0
              have b1 := BX.c1
              have b2 := BX.c2
              have ERR := Lib.hid fun (W : World) (hb : Below wx.heap.size wx W) => err_any W r atn ern bl (HRD.out.below hb)
              have LEFT0 := fun (W : World) (hb : Below wx.heap.size wx W) => left_any W r atn ern bl (HRD.out.below hb)
              have END0 := fun (W : World) (hb : Below wx.heap.size wx W) => end_any W r atn ern bl (HRD.out.below hb)
              rw [HLEN.out] at LEFT0 END0
              have LEFT := Lib.hid LEFT0
              have hwk : IntKind.i64.wrap ((k : Int) - (atn : Int)) = (k : Int) - (atn : Int) := by have := hat.out; rw [IntKind.wrap_i64]; omega
              clear RD BX MB BW LEFT0
              by_cases her : ern = 0
              · subst her
                by_cases hak : atn < k
                · have hakI : (atn : Int) < (k : Int) := by omega
                  have ev : endE k atn 0 = 3 := by simp [endE, hak]
                  rw [ev] at END0
                  have END := Lib.hid END0
                  clear END0 ev hak
                  go_wp2_with fail
                  refine wp_region_held_drew (S := (fun w' => Below wx.heap.size wx w' ∧ w'.cell? ⟨bm, 0, none⟩ = some (.slice A2 k c2) ∧ w'.cell? ⟨bm, 1, none⟩ = some (.int .i64 (atn : Int)) ∧ w'.cell? ⟨bm, 2, none⟩ = some (.int .i64 0))) (by kernel_rfl) ?_ (fun hHeld => ?_)
                  · exact ⟨(Below.refl _ _).drew, b0, b1, b2⟩
                  refine takeD (i := 0) (d := some 127) (v := ?_) _ rfl rfl (by kernel_rfl) (by kernel_rfl) (by kernel_rfl) (fun _ _ _ h => h) (by rfl) ?_ (by assumption) ?_
                  rotate_left
                  · (intro w hSw; (try dsimp only at hSw); go_simp) <;> with_reducible rfl
                  try simp only [Act.put, List.setIfInBounds_toArray, List.set_cons_zero, List.set_cons_succ]
                  refine takeD (i := 1) (d := some 128) (v := ?_) _ rfl rfl (by kernel_rfl) (by kernel_rfl) (by kernel_rfl) (fun _ _ _ h => h) (by rfl) ?_ (by assumption) ?_
                  rotate_left
                  · (intro w hSw; (try dsimp only at hSw); go_simp) <;> with_reducible rfl
                  try simp only [Act.put, List.setIfInBounds_toArray, List.set_cons_zero, List.set_cons_succ]
                  refine takeD (i := 2) (d := some 129) (v := ?_) _ rfl rfl (by kernel_rfl) (by kernel_rfl) (by kernel_rfl) (fun _ _ _ h => h) (by rfl) ?_ (by assumption) ?_
                  rotate_left
                  · (intro w hSw; (try dsimp only at hSw); go_simp) <;> with_reducible rfl
                  try simp only [Act.put, List.setIfInBounds_toArray, List.set_cons_zero, List.set_cons_succ]
                  refine takeD (i := 3) (d := some 130) (v := ?_) _ rfl rfl (by kernel_rfl) (by kernel_rfl) (by kernel_rfl) (fun _ _ _ h => h) (by rfl) ?_ (by assumption) ?_
                  rotate_left
                  · (intro w hSw; (try dsimp only at hSw); go_simp) <;> with_reducible rfl
                  try simp only [Act.put, List.setIfInBounds_toArray, List.set_cons_zero, List.set_cons_succ]
                  refine takeD (i := 4) (d := some 131) (v := ?_) _ rfl rfl (by kernel_rfl) (by kernel_rfl) (by kernel_rfl) (fun _ _ _ h => h) (by rfl) ?_ (by assumption) ?_
                  rotate_left
                  · (intro w hSw; (try dsimp only at hSw); go_simp) <;> with_reducible rfl
                  try simp only [Act.put, List.setIfInBounds_toArray, List.set_cons_zero, List.set_cons_succ]
                  refine takeD (i := 5) (d := some 132) (v := ?_) _ rfl rfl (by kernel_rfl) (by kernel_rfl) (by kernel_rfl) (fun _ _ _ h => h) (by rfl) ?_ (by assumption) ?_
                  rotate_left
                  · (intro w hSw; (try dsimp only at hSw); go_simp) <;> with_reducible rfl
                  try simp only [Act.put, List.setIfInBounds_toArray, List.set_cons_zero, List.set_cons_succ]
                  refine takeD (i := 6) (d := some 133) (v := ?_) _ rfl rfl (by kernel_rfl) (by kernel_rfl) (by kernel_rfl) (fun _ _ _ h => h) (by rfl) ?_ (by assumption) ?_
                  rotate_left
                  · (intro w hSw; (try dsimp only at hSw); go_simp) <;> with_reducible rfl
                  try simp only [Act.put, List.setIfInBounds_toArray, List.set_cons_zero, List.set_cons_succ]
                  refine takeD (i := 7) (d := some 134) (v := ?_) _ rfl rfl (by kernel_rfl) (by kernel_rfl) (by kernel_rfl) (fun _ _ _ h => h) (by rfl) ?_ (by assumption) ?_
                  rotate_left
                  · (intro w hSw; (try dsimp only at hSw); go_simp) <;> with_reducible rfl
                  try simp only [Act.put, List.setIfInBounds_toArray, List.set_cons_zero, List.set_cons_succ]
                  refine takeD (i := 8) (d := some 135) (v := ?_) _ rfl rfl (by kernel_rfl) (by kernel_rfl) (by kernel_rfl) (fun _ _ _ h => h) (by rfl) ?_ (by assumption) ?_
                  rotate_left
                  · (intro w hSw; (try dsimp only at hSw); go_simp) <;> with_reducible rfl
                  try simp only [Act.put, List.setIfInBounds_toArray, List.set_cons_zero, List.set_cons_succ]
                  refine takeD (i := 9) (d := some 136) (v := ?_) _ rfl rfl (by kernel_rfl) (by kernel_rfl) (by kernel_rfl) (fun _ _ _ h => h) (by rfl) ?_ (by assumption) ?_
                  rotate_left
                  · (intro w hSw; (try dsimp only at hSw); go_simp) <;> with_reducible rfl
                  try simp only [Act.put, List.setIfInBounds_toArray, List.set_cons_zero, List.set_cons_succ]
                  refine takeD (i := 11) (d := some 138) (v := ?_) _ rfl rfl (by kernel_rfl) (by kernel_rfl) (by kernel_rfl) (fun _ _ _ h => h) (by rfl) ?_ (by assumption) ?_
                  rotate_left
                  · (intro w hSw; (try dsimp only at hSw); go_simp) <;> with_reducible rfl
                  try simp only [Act.put, List.setIfInBounds_toArray, List.set_cons_zero, List.set_cons_succ]
                  refine takeD (i := 12) (d := some 139) (v := ?_) _ rfl rfl (by kernel_rfl) (by kernel_rfl) (by kernel_rfl) (fun _ _ _ h => h) (by rfl) ?_ (by assumption) ?_
                  rotate_left
                  · (intro w hSw; (try dsimp only at hSw); go_simp) <;> with_reducible rfl
                  try simp only [Act.put, List.setIfInBounds_toArray, List.set_cons_zero, List.set_cons_succ]
                  refine wpAnyH_ready (rs := [10]) (by kernel_rfl) (by simp) ?_
                  refine AllReadyH.cons rfl (fun K hK => ?_) AllReadyH.nil
                  (go_simp; go_at_call 27; refine (ERR.out _ hHeld.1).mono ?_; rintro e wt ⟨rfl, hbt⟩; try go_wp2_with fail)
                  refine hK.out _ _ ?_ (fun hHeld => ?_)
                  · exact ⟨hHeld.1.trans (hbt.mono hHeld.1.size), cell_later hbt hHeld.2.1, cell_later hbt hHeld.2.2.1, cell_later hbt hHeld.2.2.2⟩
                  clear hK K
                  try simp only [Act.put, List.setIfInBounds_toArray, List.set_cons_zero, List.set_cons_succ]
                  refine takeD (i := 13) (d := some 140) (v := ?_) _ rfl rfl (by kernel_rfl) (by kernel_rfl) (by kernel_rfl) (fun _ _ _ h => h) (by rfl) ?_ (by assumption) ?_
                  rotate_left
                  · (intro w hSw; (try dsimp only at hSw); go_simp) <;> with_reducible rfl
                  try simp only [Act.put, List.setIfInBounds_toArray, List.set_cons_zero, List.set_cons_succ]
                  refine takeD (i := 14) (d := some 141) (v := ?_) _ rfl rfl (by kernel_rfl) (by kernel_rfl) (by kernel_rfl) (fun _ _ _ h => h) (by rfl) ?_ (by assumption) ?_
                  rotate_left
                  · (intro w hSw; (try dsimp only at hSw); go_simp) <;> with_reducible rfl
                  try simp only [Act.put, List.setIfInBounds_toArray, List.set_cons_zero, List.set_cons_succ]
                  refine takeD (i := 15) (d := some 142) (v := ?_) _ rfl rfl (by kernel_rfl) (by kernel_rfl) (by kernel_rfl) (fun _ _ _ h => h) (by rfl) ?_ (by assumption) ?_
                  rotate_left
                  · (intro w hSw; (try dsimp only at hSw); go_simp) <;> with_reducible rfl
                  try simp only [Act.put, List.setIfInBounds_toArray, List.set_cons_zero, List.set_cons_succ]
                  refine takeD (i := 16) (d := some 143) (v := ?_) _ rfl rfl (by kernel_rfl) (by kernel_rfl) (by kernel_rfl) (fun _ _ _ h => h) (by rfl) ?_ (by assumption) ?_
                  rotate_left
                  · (intro w hSw; (try dsimp only at hSw); go_simp) <;> with_reducible rfl
                  try simp only [Act.put, List.setIfInBounds_toArray, List.set_cons_zero, List.set_cons_succ]
                  refine takeD (i := 18) (d := some 145) (v := ?_) _ rfl rfl (by kernel_rfl) (by kernel_rfl) (by kernel_rfl) (fun _ _ _ h => h) (by rfl) ?_ (by assumption) ?_
                  rotate_left
                  · (intro w hSw; (try dsimp only at hSw); go_simp) <;> with_reducible rfl
                  try simp only [Act.put, List.setIfInBounds_toArray, List.set_cons_zero, List.set_cons_succ]
                  refine takeD (i := 19) (d := some 146) (v := ?_) _ rfl rfl (by kernel_rfl) (by kernel_rfl) (by kernel_rfl) (fun _ _ _ h => h) (by rfl) ?_ (by assumption) ?_
                  rotate_left
                  · (intro w hSw; (try dsimp only at hSw); go_simp) <;> with_reducible rfl
                  try simp only [Act.put, List.setIfInBounds_toArray, List.set_cons_zero, List.set_cons_succ]
                  refine takeD (i := 20) (d := some 147) (v := ?_) _ rfl rfl (by kernel_rfl) (by kernel_rfl) (by kernel_rfl) (fun _ _ _ h => h) (by rfl) ?_ (by assumption) ?_
                  rotate_left
                  · (intro w hSw; (try dsimp only at hSw); go_simp) <;> with_reducible rfl
                  try simp only [Act.put, List.setIfInBounds_toArray, List.set_cons_zero, List.set_cons_succ]
                  refine takeD (i := 21) (d := some 148) (v := ?_) _ rfl rfl (by kernel_rfl) (by kernel_rfl) (by kernel_rfl) (fun _ _ _ h => h) (by rfl) ?_ (by assumption) ?_
                  rotate_left
                  · (intro w hSw; (try dsimp only at hSw); go_simp) <;> with_reducible rfl
                  try simp only [Act.put, List.setIfInBounds_toArray, List.set_cons_zero, List.set_cons_succ]
                  refine takeD (i := 22) (d := some 149) (v := ?_) _ rfl rfl (by kernel_rfl) (by kernel_rfl) (by kernel_rfl) (fun _ _ _ h => h) (by rfl) ?_ (by assumption) ?_
                  rotate_left
                  · (intro w hSw; (try dsimp only at hSw); go_simp) <;> with_reducible rfl
                  try simp only [Act.put, List.setIfInBounds_toArray, List.set_cons_zero, List.set_cons_succ]
                  refine takeD (i := 23) (d := some 150) (v := ?_) _ rfl rfl (by kernel_rfl) (by kernel_rfl) (by kernel_rfl) (fun _ _ _ h => h) (by rfl) ?_ (by assumption) ?_
                  rotate_left
                  · (intro w hSw; (try dsimp only at hSw); go_simp) <;> with_reducible rfl
                  try simp only [Act.put, List.setIfInBounds_toArray, List.set_cons_zero, List.set_cons_succ]
                  refine wpAnyH_ready (rs := [17]) (by kernel_rfl) (by simp) ?_
                  refine AllReadyH.cons rfl (fun K hK => ?_) AllReadyH.nil
                  (go_simp; go_at_call 28; refine (LEFT.out _ hHeld.1).mono ?_; rintro e wt ⟨rfl, hbt⟩; try go_wp2_with fail)
                  refine hK.out _ _ ?_ (fun hHeld => ?_)
                  · exact ⟨hHeld.1.trans (hbt.mono hHeld.1.size), cell_later hbt hHeld.2.1, cell_later hbt hHeld.2.2.1, cell_later hbt hHeld.2.2.2⟩
                  clear hK K
                  try simp only [Act.put, List.setIfInBounds_toArray, List.set_cons_zero, List.set_cons_succ]
                  refine takeD (i := 24) (d := some 151) (v := ?_) _ rfl rfl (by kernel_rfl) (by kernel_rfl) (by kernel_rfl) (fun _ _ _ h => h) (by rfl) ?_ (by assumption) ?_
                  rotate_left
                  · (intro w hSw; (try dsimp only at hSw); go_simp) <;> with_reducible rfl
                  try simp only [Act.put, List.setIfInBounds_toArray, List.set_cons_zero, List.set_cons_succ]
                  refine takeD (i := 25) (d := some 152) (v := ?_) _ rfl rfl (by kernel_rfl) (by kernel_rfl) (by kernel_rfl) (fun _ _ _ h => h) (by rfl) ?_ (by assumption) ?_
                  rotate_left
                  · (intro w hSw; (try dsimp only at hSw); go_simp) <;> with_reducible rfl
                  try simp only [Act.put, List.setIfInBounds_toArray, List.set_cons_zero, List.set_cons_succ]
                  refine takeD (i := 26) (d := some 153) (v := ?_) _ rfl rfl (by kernel_rfl) (by kernel_rfl) (by kernel_rfl) (fun _ _ _ h => h) (by rfl) ?_ (by assumption) ?_
                  rotate_left
                  · (intro w hSw; (try dsimp only at hSw); go_simp) <;> with_reducible rfl
                  try simp only [Act.put, List.setIfInBounds_toArray, List.set_cons_zero, List.set_cons_succ]
                  refine takeD (i := 27) (d := some 154) (v := ?_) _ rfl rfl (by kernel_rfl) (by kernel_rfl) (by kernel_rfl) (fun _ _ _ h => h) (by rfl) ?_ (by assumption) ?_
                  rotate_left
                  · (intro w hSw; (try dsimp only at hSw); go_simp) <;> with_reducible rfl
                  try simp only [Act.put, List.setIfInBounds_toArray, List.set_cons_zero, List.set_cons_succ]
                  refine takeD (i := 29) (d := some 156) (v := ?_) _ rfl rfl (by kernel_rfl) (by kernel_rfl) (by kernel_rfl) (fun _ _ _ h => h) (by rfl) ?_ (by assumption) ?_
                  rotate_left
                  · (intro w hSw; (try dsimp only at hSw); go_simp) <;> with_reducible rfl
                  try simp only [Act.put, List.setIfInBounds_toArray, List.set_cons_zero, List.set_cons_succ]
                  refine wpAnyH_ready (rs := [28]) (by kernel_rfl) (by simp) ?_
                  refine AllReadyH.cons rfl (fun K hK => ?_) AllReadyH.nil
                  (go_simp; go_at_call 29; refine (END.out _ hHeld.1).mono ?_; rintro e wt ⟨rfl, hbt⟩; try go_wp2_with fail)
                  refine hK.out _ _ ?_ (fun hHeld => ?_)
                  · exact ⟨hHeld.1.trans (hbt.mono hHeld.1.size), cell_later hbt hHeld.2.1, cell_later hbt hHeld.2.2.1, cell_later hbt hHeld.2.2.2⟩
                  clear hK K
                  try simp only [Act.put, List.setIfInBounds_toArray, List.set_cons_zero, List.set_cons_succ]
                  refine takeD (i := 30) (d := some 157) (v := ?_) _ rfl rfl (by kernel_rfl) (by kernel_rfl) (by kernel_rfl) (fun _ _ _ h => h) (by rfl) ?_ (by assumption) ?_
                  rotate_left
                  · (intro w hSw; (try dsimp only at hSw); go_simp) <;> with_reducible rfl
                  try simp only [Act.put, List.setIfInBounds_toArray, List.set_cons_zero, List.set_cons_succ]
                  refine takeD (i := 31) (d := some 158) (v := ?_) _ rfl rfl (by kernel_rfl) (by kernel_rfl) (by kernel_rfl) (fun _ _ _ h => h) (by rfl) ?_ (by assumption) ?_
                  rotate_left
                  · (intro w hSw; (try dsimp only at hSw); go_simp) <;> with_reducible rfl
                  try simp only [Act.put, List.setIfInBounds_toArray, List.set_cons_zero, List.set_cons_succ]
                  refine wpAnyH_done (by kernel_rfl) ?_ _
                  have BF := hHeld.1
                  have RDn := Lib.hid (HRD.out.below BF)
                  have BXn := Lib.hid (HBX.out.below BF)
                  have MBn := Lib.hid (HMB.out.below (BF.mono (Nat.le_of_lt HBX.out.lt)))
                  have BWn := Lib.hid (HBW.out.trans (BF.mono HBW.out.size))
                  clear hHeld BF ERR LEFT END
                  go_wp2_with fail
                  go_roundw
                  case rel => exact ⟨⟨j + 1, atn, 0, h30, hlt, by go_num, RDn.out, BXn.out, MBn.out, BWn.out⟩⟩
                  case measure => simp [intOf]; omega
                · have hakI : ¬ (atn : Int) < (k : Int) := by omega
                  have ev : endE k atn 0 = 0 := by simp [endE, hak]
                  rw [ev] at END0
                  have END := Lib.hid END0
                  clear END0 ev hak
                  go_wp2_with fail
                  refine wp_region_held_drew (S := (fun w' => Below wx.heap.size wx w' ∧ w'.cell? ⟨bm, 0, none⟩ = some (.slice A2 k c2) ∧ w'.cell? ⟨bm, 1, none⟩ = some (.int .i64 (atn : Int)) ∧ w'.cell? ⟨bm, 2, none⟩ = some (.int .i64 0))) (by kernel_rfl) ?_ (fun hHeld => ?_)
                  · exact ⟨(Below.refl _ _).drew, b0, b1, b2⟩
                  refine takeD (i := 0) (d := some 127) (v := ?_) _ rfl rfl (by kernel_rfl) (by kernel_rfl) (by kernel_rfl) (fun _ _ _ h => h) (by rfl) ?_ (by assumption) ?_
                  rotate_left
                  · (intro w hSw; (try dsimp only at hSw); go_simp) <;> with_reducible rfl
                  try simp only [Act.put, List.setIfInBounds_toArray, List.set_cons_zero, List.set_cons_succ]
                  refine takeD (i := 1) (d := some 128) (v := ?_) _ rfl rfl (by kernel_rfl) (by kernel_rfl) (by kernel_rfl) (fun _ _ _ h => h) (by rfl) ?_ (by assumption) ?_
                  rotate_left
                  · (intro w hSw; (try dsimp only at hSw); go_simp) <;> with_reducible rfl
                  try simp only [Act.put, List.setIfInBounds_toArray, List.set_cons_zero, List.set_cons_succ]
                  refine takeD (i := 2) (d := some 129) (v := ?_) _ rfl rfl (by kernel_rfl) (by kernel_rfl) (by kernel_rfl) (fun _ _ _ h => h) (by rfl) ?_ (by assumption) ?_
                  rotate_left
                  · (intro w hSw; (try dsimp only at hSw); go_simp) <;> with_reducible rfl
                  try simp only [Act.put, List.setIfInBounds_toArray, List.set_cons_zero, List.set_cons_succ]
                  refine takeD (i := 3) (d := some 130) (v := ?_) _ rfl rfl (by kernel_rfl) (by kernel_rfl) (by kernel_rfl) (fun _ _ _ h => h) (by rfl) ?_ (by assumption) ?_
                  rotate_left
                  · (intro w hSw; (try dsimp only at hSw); go_simp) <;> with_reducible rfl
                  try simp only [Act.put, List.setIfInBounds_toArray, List.set_cons_zero, List.set_cons_succ]
                  refine takeD (i := 4) (d := some 131) (v := ?_) _ rfl rfl (by kernel_rfl) (by kernel_rfl) (by kernel_rfl) (fun _ _ _ h => h) (by rfl) ?_ (by assumption) ?_
                  rotate_left
                  · (intro w hSw; (try dsimp only at hSw); go_simp) <;> with_reducible rfl
                  try simp only [Act.put, List.setIfInBounds_toArray, List.set_cons_zero, List.set_cons_succ]
                  refine takeD (i := 5) (d := some 132) (v := ?_) _ rfl rfl (by kernel_rfl) (by kernel_rfl) (by kernel_rfl) (fun _ _ _ h => h) (by rfl) ?_ (by assumption) ?_
                  rotate_left
                  · (intro w hSw; (try dsimp only at hSw); go_simp) <;> with_reducible rfl
                  try simp only [Act.put, List.setIfInBounds_toArray, List.set_cons_zero, List.set_cons_succ]
                  refine takeD (i := 6) (d := some 133) (v := ?_) _ rfl rfl (by kernel_rfl) (by kernel_rfl) (by kernel_rfl) (fun _ _ _ h => h) (by rfl) ?_ (by assumption) ?_
                  rotate_left
                  · (intro w hSw; (try dsimp only at hSw); go_simp) <;> with_reducible rfl
                  try simp only [Act.put, List.setIfInBounds_toArray, List.set_cons_zero, List.set_cons_succ]
                  refine takeD (i := 7) (d := some 134) (v := ?_) _ rfl rfl (by kernel_rfl) (by kernel_rfl) (by kernel_rfl) (fun _ _ _ h => h) (by rfl) ?_ (by assumption) ?_
                  rotate_left
                  · (intro w hSw; (try dsimp only at hSw); go_simp) <;> with_reducible rfl
                  try simp only [Act.put, List.setIfInBounds_toArray, List.set_cons_zero, List.set_cons_succ]
                  refine takeD (i := 8) (d := some 135) (v := ?_) _ rfl rfl (by kernel_rfl) (by kernel_rfl) (by kernel_rfl) (fun _ _ _ h => h) (by rfl) ?_ (by assumption) ?_
                  rotate_left
                  · (intro w hSw; (try dsimp only at hSw); go_simp) <;> with_reducible rfl
                  try simp only [Act.put, List.setIfInBounds_toArray, List.set_cons_zero, List.set_cons_succ]
                  refine takeD (i := 9) (d := some 136) (v := ?_) _ rfl rfl (by kernel_rfl) (by kernel_rfl) (by kernel_rfl) (fun _ _ _ h => h) (by rfl) ?_ (by assumption) ?_
                  rotate_left
                  · (intro w hSw; (try dsimp only at hSw); go_simp) <;> with_reducible rfl
                  try simp only [Act.put, List.setIfInBounds_toArray, List.set_cons_zero, List.set_cons_succ]
                  refine takeD (i := 11) (d := some 138) (v := ?_) _ rfl rfl (by kernel_rfl) (by kernel_rfl) (by kernel_rfl) (fun _ _ _ h => h) (by rfl) ?_ (by assumption) ?_
                  rotate_left
                  · (intro w hSw; (try dsimp only at hSw); go_simp) <;> with_reducible rfl
                  try simp only [Act.put, List.setIfInBounds_toArray, List.set_cons_zero, List.set_cons_succ]
                  refine takeD (i := 12) (d := some 139) (v := ?_) _ rfl rfl (by kernel_rfl) (by kernel_rfl) (by kernel_rfl) (fun _ _ _ h => h) (by rfl) ?_ (by assumption) ?_
                  rotate_left
                  · (intro w hSw; (try dsimp only at hSw); go_simp) <;> with_reducible rfl
                  try simp only [Act.put, List.setIfInBounds_toArray, List.set_cons_zero, List.set_cons_succ]
                  refine wpAnyH_ready (rs := [10]) (by kernel_rfl) (by simp) ?_
                  refine AllReadyH.cons rfl (fun K hK => ?_) AllReadyH.nil
                  (go_simp; go_at_call 27; refine (ERR.out _ hHeld.1).mono ?_; rintro e wt ⟨rfl, hbt⟩; try go_wp2_with fail)
                  refine hK.out _ _ ?_ (fun hHeld => ?_)
                  · exact ⟨hHeld.1.trans (hbt.mono hHeld.1.size), cell_later hbt hHeld.2.1, cell_later hbt hHeld.2.2.1, cell_later hbt hHeld.2.2.2⟩
                  clear hK K
                  try simp only [Act.put, List.setIfInBounds_toArray, List.set_cons_zero, List.set_cons_succ]
                  refine takeD (i := 13) (d := some 140) (v := ?_) _ rfl rfl (by kernel_rfl) (by kernel_rfl) (by kernel_rfl) (fun _ _ _ h => h) (by rfl) ?_ (by assumption) ?_
                  rotate_left
                  · (intro w hSw; (try dsimp only at hSw); go_simp) <;> with_reducible rfl
                  try simp only [Act.put, List.setIfInBounds_toArray, List.set_cons_zero, List.set_cons_succ]
                  refine takeD (i := 14) (d := some 141) (v := ?_) _ rfl rfl (by kernel_rfl) (by kernel_rfl) (by kernel_rfl) (fun _ _ _ h => h) (by rfl) ?_ (by assumption) ?_
                  rotate_left
                  · (intro w hSw; (try dsimp only at hSw); go_simp) <;> with_reducible rfl
                  try simp only [Act.put, List.setIfInBounds_toArray, List.set_cons_zero, List.set_cons_succ]
                  refine takeD (i := 15) (d := some 142) (v := ?_) _ rfl rfl (by kernel_rfl) (by kernel_rfl) (by kernel_rfl) (fun _ _ _ h => h) (by rfl) ?_ (by assumption) ?_
                  rotate_left
                  · (intro w hSw; (try dsimp only at hSw); go_simp) <;> with_reducible rfl
                  try simp only [Act.put, List.setIfInBounds_toArray, List.set_cons_zero, List.set_cons_succ]
                  refine takeD (i := 16) (d := some 143) (v := ?_) _ rfl rfl (by kernel_rfl) (by kernel_rfl) (by kernel_rfl) (fun _ _ _ h => h) (by rfl) ?_ (by assumption) ?_
                  rotate_left
                  · (intro w hSw; (try dsimp only at hSw); go_simp) <;> with_reducible rfl
                  try simp only [Act.put, List.setIfInBounds_toArray, List.set_cons_zero, List.set_cons_succ]
                  refine takeD (i := 18) (d := some 145) (v := ?_) _ rfl rfl (by kernel_rfl) (by kernel_rfl) (by kernel_rfl) (fun _ _ _ h => h) (by rfl) ?_ (by assumption) ?_
                  rotate_left
                  · (intro w hSw; (try dsimp only at hSw); go_simp) <;> with_reducible rfl
                  try simp only [Act.put, List.setIfInBounds_toArray, List.set_cons_zero, List.set_cons_succ]
                  refine takeD (i := 19) (d := some 146) (v := ?_) _ rfl rfl (by kernel_rfl) (by kernel_rfl) (by kernel_rfl) (fun _ _ _ h => h) (by rfl) ?_ (by assumption) ?_
                  rotate_left
                  · (intro w hSw; (try dsimp only at hSw); go_simp) <;> with_reducible rfl
                  try simp only [Act.put, List.setIfInBounds_toArray, List.set_cons_zero, List.set_cons_succ]
                  refine takeD (i := 20) (d := some 147) (v := ?_) _ rfl rfl (by kernel_rfl) (by kernel_rfl) (by kernel_rfl) (fun _ _ _ h => h) (by rfl) ?_ (by assumption) ?_
                  rotate_left
                  · (intro w hSw; (try dsimp only at hSw); go_simp) <;> with_reducible rfl
                  try simp only [Act.put, List.setIfInBounds_toArray, List.set_cons_zero, List.set_cons_succ]
                  refine takeD (i := 21) (d := some 148) (v := ?_) _ rfl rfl (by kernel_rfl) (by kernel_rfl) (by kernel_rfl) (fun _ _ _ h => h) (by rfl) ?_ (by assumption) ?_
                  rotate_left
                  · (intro w hSw; (try dsimp only at hSw); go_simp) <;> with_reducible rfl
                  try simp only [Act.put, List.setIfInBounds_toArray, List.set_cons_zero, List.set_cons_succ]
                  refine takeD (i := 22) (d := some 149) (v := ?_) _ rfl rfl (by kernel_rfl) (by kernel_rfl) (by kernel_rfl) (fun _ _ _ h => h) (by rfl) ?_ (by assumption) ?_
                  rotate_left
                  · (intro w hSw; (try dsimp only at hSw); go_simp) <;> with_reducible rfl
                  try simp only [Act.put, List.setIfInBounds_toArray, List.set_cons_zero, List.set_cons_succ]
                  refine takeD (i := 23) (d := some 150) (v := ?_) _ rfl rfl (by kernel_rfl) (by kernel_rfl) (by kernel_rfl) (fun _ _ _ h => h) (by rfl) ?_ (by assumption) ?_
                  rotate_left
                  · (intro w hSw; (try dsimp only at hSw); go_simp) <;> with_reducible rfl
                  try simp only [Act.put, List.setIfInBounds_toArray, List.set_cons_zero, List.set_cons_succ]
                  refine wpAnyH_ready (rs := [17]) (by kernel_rfl) (by simp) ?_
                  refine AllReadyH.cons rfl (fun K hK => ?_) AllReadyH.nil
                  (go_simp; go_at_call 28; refine (LEFT.out _ hHeld.1).mono ?_; rintro e wt ⟨rfl, hbt⟩; try go_wp2_with fail)
                  refine hK.out _ _ ?_ (fun hHeld => ?_)
                  · exact ⟨hHeld.1.trans (hbt.mono hHeld.1.size), cell_later hbt hHeld.2.1, cell_later hbt hHeld.2.2.1, cell_later hbt hHeld.2.2.2⟩
                  clear hK K
                  try simp only [Act.put, List.setIfInBounds_toArray, List.set_cons_zero, List.set_cons_succ]
                  refine takeD (i := 24) (d := some 151) (v := ?_) _ rfl rfl (by kernel_rfl) (by kernel_rfl) (by kernel_rfl) (fun _ _ _ h => h) (by rfl) ?_ (by assumption) ?_
                  rotate_left
                  · (intro w hSw; (try dsimp only at hSw); go_simp) <;> with_reducible rfl
                  try simp only [Act.put, List.setIfInBounds_toArray, List.set_cons_zero, List.set_cons_succ]
                  refine takeD (i := 25) (d := some 152) (v := ?_) _ rfl rfl (by kernel_rfl) (by kernel_rfl) (by kernel_rfl) (fun _ _ _ h => h) (by rfl) ?_ (by assumption) ?_
                  rotate_left
                  · (intro w hSw; (try dsimp only at hSw); go_simp) <;> with_reducible rfl
                  try simp only [Act.put, List.setIfInBounds_toArray, List.set_cons_zero, List.set_cons_succ]
                  refine takeD (i := 26) (d := some 153) (v := ?_) _ rfl rfl (by kernel_rfl) (by kernel_rfl) (by kernel_rfl) (fun _ _ _ h => h) (by rfl) ?_ (by assumption) ?_
                  rotate_left
                  · (intro w hSw; (try dsimp only at hSw); go_simp) <;> with_reducible rfl
                  try simp only [Act.put, List.setIfInBounds_toArray, List.set_cons_zero, List.set_cons_succ]
                  refine takeD (i := 27) (d := some 154) (v := ?_) _ rfl rfl (by kernel_rfl) (by kernel_rfl) (by kernel_rfl) (fun _ _ _ h => h) (by rfl) ?_ (by assumption) ?_
                  rotate_left
                  · (intro w hSw; (try dsimp only at hSw); go_simp) <;> with_reducible rfl
                  try simp only [Act.put, List.setIfInBounds_toArray, List.set_cons_zero, List.set_cons_succ]
                  refine takeD (i := 29) (d := some 156) (v := ?_) _ rfl rfl (by kernel_rfl) (by kernel_rfl) (by kernel_rfl) (fun _ _ _ h => h) (by rfl) ?_ (by assumption) ?_
                  rotate_left
                  · (intro w hSw; (try dsimp only at hSw); go_simp) <;> with_reducible rfl
                  try simp only [Act.put, List.setIfInBounds_toArray, List.set_cons_zero, List.set_cons_succ]
                  refine wpAnyH_ready (rs := [28]) (by kernel_rfl) (by simp) ?_
                  refine AllReadyH.cons rfl (fun K hK => ?_) AllReadyH.nil
                  (go_simp; go_at_call 29; refine (END.out _ hHeld.1).mono ?_; rintro e wt ⟨rfl, hbt⟩; try go_wp2_with fail)
                  refine hK.out _ _ ?_ (fun hHeld => ?_)
                  · exact ⟨hHeld.1.trans (hbt.mono hHeld.1.size), cell_later hbt hHeld.2.1, cell_later hbt hHeld.2.2.1, cell_later hbt hHeld.2.2.2⟩
                  clear hK K
                  try simp only [Act.put, List.setIfInBounds_toArray, List.set_cons_zero, List.set_cons_succ]
                  refine takeD (i := 30) (d := some 157) (v := ?_) _ rfl rfl (by kernel_rfl) (by kernel_rfl) (by kernel_rfl) (fun _ _ _ h => h) (by rfl) ?_ (by assumption) ?_
                  rotate_left
                  · (intro w hSw; (try dsimp only at hSw); go_simp) <;> with_reducible rfl
                  try simp only [Act.put, List.setIfInBounds_toArray, List.set_cons_zero, List.set_cons_succ]
                  refine takeD (i := 31) (d := some 158) (v := ?_) _ rfl rfl (by kernel_rfl) (by kernel_rfl) (by kernel_rfl) (fun _ _ _ h => h) (by rfl) ?_ (by assumption) ?_
                  rotate_left
                  · (intro w hSw; (try dsimp only at hSw); go_simp) <;> with_reducible rfl
                  try simp only [Act.put, List.setIfInBounds_toArray, List.set_cons_zero, List.set_cons_succ]
                  refine wpAnyH_done (by kernel_rfl) ?_ _
                  have BF := hHeld.1
                  have RDn := Lib.hid (HRD.out.below BF)
                  have BXn := Lib.hid (HBX.out.below BF)
                  have MBn := Lib.hid (HMB.out.below (BF.mono (Nat.le_of_lt HBX.out.lt)))
                  have BWn := Lib.hid (HBW.out.trans (BF.mono HBW.out.size))
                  clear hHeld BF ERR LEFT END
                  go_wp2_with fail
                  go_roundw
                  case rel => exact ⟨⟨j + 1, atn, 0, h30, hlt, by go_num, RDn.out, BXn.out, MBn.out, BWn.out⟩⟩
                  case measure => simp [intOf]; omega
              · have ev : endE k atn ern = ern := by simp [endE, her]
                rw [ev] at END0
                have END := Lib.hid END0
                have her' : (ern == 0) = false := by rw [beq_eq_false_iff_ne]; exact her
                clear END0 ev
                go_wp2_with fail
                refine wp_region_held_drew (S := (fun w' => Below wx.heap.size wx w' ∧ w'.cell? ⟨bm, 0, none⟩ = some (.slice A2 k c2) ∧ w'.cell? ⟨bm, 1, none⟩ = some (.int .i64 (atn : Int)) ∧ w'.cell? ⟨bm, 2, none⟩ = some (.int .i64 ern))) (by kernel_rfl) ?_ (fun hHeld => ?_)
                · exact ⟨(Below.refl _ _).drew, b0, b1, b2⟩
                refine takeD (i := 0) (d := some 127) (v := ?_) _ rfl rfl (by kernel_rfl) (by kernel_rfl) (by kernel_rfl) (fun _ _ _ h => h) (by rfl) ?_ (by assumption) ?_
                rotate_left
                · (intro w hSw; (try dsimp only at hSw); go_simp) <;> with_reducible rfl
                try simp only [Act.put, List.setIfInBounds_toArray, List.set_cons_zero, List.set_cons_succ]
                refine takeD (i := 1) (d := some 128) (v := ?_) _ rfl rfl (by kernel_rfl) (by kernel_rfl) (by kernel_rfl) (fun _ _ _ h => h) (by rfl) ?_ (by assumption) ?_
                rotate_left
                · (intro w hSw; (try dsimp only at hSw); go_simp) <;> with_reducible rfl
                try simp only [Act.put, List.setIfInBounds_toArray, List.set_cons_zero, List.set_cons_succ]
                refine takeD (i := 2) (d := some 129) (v := ?_) _ rfl rfl (by kernel_rfl) (by kernel_rfl) (by kernel_rfl) (fun _ _ _ h => h) (by rfl) ?_ (by assumption) ?_
                rotate_left
                · (intro w hSw; (try dsimp only at hSw); go_simp) <;> with_reducible rfl
                try simp only [Act.put, List.setIfInBounds_toArray, List.set_cons_zero, List.set_cons_succ]
                refine takeD (i := 3) (d := some 130) (v := ?_) _ rfl rfl (by kernel_rfl) (by kernel_rfl) (by kernel_rfl) (fun _ _ _ h => h) (by rfl) ?_ (by assumption) ?_
                rotate_left
                · (intro w hSw; (try dsimp only at hSw); go_simp) <;> with_reducible rfl
                try simp only [Act.put, List.setIfInBounds_toArray, List.set_cons_zero, List.set_cons_succ]
                refine takeD (i := 4) (d := some 131) (v := ?_) _ rfl rfl (by kernel_rfl) (by kernel_rfl) (by kernel_rfl) (fun _ _ _ h => h) (by rfl) ?_ (by assumption) ?_
                rotate_left
                · (intro w hSw; (try dsimp only at hSw); go_simp) <;> with_reducible rfl
                try simp only [Act.put, List.setIfInBounds_toArray, List.set_cons_zero, List.set_cons_succ]
                refine takeD (i := 5) (d := some 132) (v := ?_) _ rfl rfl (by kernel_rfl) (by kernel_rfl) (by kernel_rfl) (fun _ _ _ h => h) (by rfl) ?_ (by assumption) ?_
                rotate_left
                · (intro w hSw; (try dsimp only at hSw); go_simp) <;> with_reducible rfl
                try simp only [Act.put, List.setIfInBounds_toArray, List.set_cons_zero, List.set_cons_succ]
                refine takeD (i := 6) (d := some 133) (v := ?_) _ rfl rfl (by kernel_rfl) (by kernel_rfl) (by kernel_rfl) (fun _ _ _ h => h) (by rfl) ?_ (by assumption) ?_
                rotate_left
                · (intro w hSw; (try dsimp only at hSw); go_simp) <;> with_reducible rfl
                try simp only [Act.put, List.setIfInBounds_toArray, List.set_cons_zero, List.set_cons_succ]
                refine takeD (i := 7) (d := some 134) (v := ?_) _ rfl rfl (by kernel_rfl) (by kernel_rfl) (by kernel_rfl) (fun _ _ _ h => h) (by rfl) ?_ (by assumption) ?_
                rotate_left
                · (intro w hSw; (try dsimp only at hSw); go_simp) <;> with_reducible rfl
                try simp only [Act.put, List.setIfInBounds_toArray, List.set_cons_zero, List.set_cons_succ]
                refine takeD (i := 8) (d := some 135) (v := ?_) _ rfl rfl (by kernel_rfl) (by kernel_rfl) (by kernel_rfl) (fun _ _ _ h => h) (by rfl) ?_ (by assumption) ?_
                rotate_left
                · (intro w hSw; (try dsimp only at hSw); go_simp) <;> with_reducible rfl
                try simp only [Act.put, List.setIfInBounds_toArray, List.set_cons_zero, List.set_cons_succ]
                refine takeD (i := 9) (d := some 136) (v := ?_) _ rfl rfl (by kernel_rfl) (by kernel_rfl) (by kernel_rfl) (fun _ _ _ h => h) (by rfl) ?_ (by assumption) ?_
                rotate_left
                · (intro w hSw; (try dsimp only at hSw); go_simp) <;> with_reducible rfl
                try simp only [Act.put, List.setIfInBounds_toArray, List.set_cons_zero, List.set_cons_succ]
                refine takeD (i := 11) (d := some 138) (v := ?_) _ rfl rfl (by kernel_rfl) (by kernel_rfl) (by kernel_rfl) (fun _ _ _ h => h) (by rfl) ?_ (by assumption) ?_
                rotate_left
                · (intro w hSw; (try dsimp only at hSw); go_simp) <;> with_reducible rfl
                try simp only [Act.put, List.setIfInBounds_toArray, List.set_cons_zero, List.set_cons_succ]
                refine takeD (i := 12) (d := some 139) (v := ?_) _ rfl rfl (by kernel_rfl) (by kernel_rfl) (by kernel_rfl) (fun _ _ _ h => h) (by rfl) ?_ (by assumption) ?_
                rotate_left
                · (intro w hSw; (try dsimp only at hSw); go_simp) <;> with_reducible rfl
                try simp only [Act.put, List.setIfInBounds_toArray, List.set_cons_zero, List.set_cons_succ]
                refine wpAnyH_ready (rs := [10]) (by kernel_rfl) (by simp) ?_
                refine AllReadyH.cons rfl (fun K hK => ?_) AllReadyH.nil
                (go_simp; go_at_call 27; refine (ERR.out _ hHeld.1).mono ?_; rintro e wt ⟨rfl, hbt⟩; try go_wp2_with fail)
                refine hK.out _ _ ?_ (fun hHeld => ?_)
                · exact ⟨hHeld.1.trans (hbt.mono hHeld.1.size), cell_later hbt hHeld.2.1, cell_later hbt hHeld.2.2.1, cell_later hbt hHeld.2.2.2⟩
                clear hK K
                try simp only [Act.put, List.setIfInBounds_toArray, List.set_cons_zero, List.set_cons_succ]
                refine takeD (i := 13) (d := some 140) (v := ?_) _ rfl rfl (by kernel_rfl) (by kernel_rfl) (by kernel_rfl) (fun _ _ _ h => h) (by rfl) ?_ (by assumption) ?_
                rotate_left
                · (intro w hSw; (try dsimp only at hSw); go_simp) <;> with_reducible rfl
                try simp only [Act.put, List.setIfInBounds_toArray, List.set_cons_zero, List.set_cons_succ]
                refine takeD (i := 14) (d := some 141) (v := ?_) _ rfl rfl (by kernel_rfl) (by kernel_rfl) (by kernel_rfl) (fun _ _ _ h => h) (by rfl) ?_ (by assumption) ?_
                rotate_left
                · (intro w hSw; (try dsimp only at hSw); go_simp) <;> with_reducible rfl
                try simp only [Act.put, List.setIfInBounds_toArray, List.set_cons_zero, List.set_cons_succ]
                refine takeD (i := 15) (d := some 142) (v := ?_) _ rfl rfl (by kernel_rfl) (by kernel_rfl) (by kernel_rfl) (fun _ _ _ h => h) (by rfl) ?_ (by assumption) ?_
                rotate_left
                · (intro w hSw; (try dsimp only at hSw); go_simp) <;> with_reducible rfl
                try simp only [Act.put, List.setIfInBounds_toArray, List.set_cons_zero, List.set_cons_succ]
                refine takeD (i := 16) (d := some 143) (v := ?_) _ rfl rfl (by kernel_rfl) (by kernel_rfl) (by kernel_rfl) (fun _ _ _ h => h) (by rfl) ?_ (by assumption) ?_
                rotate_left
                · (intro w hSw; (try dsimp only at hSw); go_simp) <;> with_reducible rfl
                try simp only [Act.put, List.setIfInBounds_toArray, List.set_cons_zero, List.set_cons_succ]
                refine takeD (i := 18) (d := some 145) (v := ?_) _ rfl rfl (by kernel_rfl) (by kernel_rfl) (by kernel_rfl) (fun _ _ _ h => h) (by rfl) ?_ (by assumption) ?_
                rotate_left
                · (intro w hSw; (try dsimp only at hSw); go_simp) <;> with_reducible rfl
                try simp only [Act.put, List.setIfInBounds_toArray, List.set_cons_zero, List.set_cons_succ]
                refine takeD (i := 19) (d := some 146) (v := ?_) _ rfl rfl (by kernel_rfl) (by kernel_rfl) (by kernel_rfl) (fun _ _ _ h => h) (by rfl) ?_ (by assumption) ?_
                rotate_left
                · (intro w hSw; (try dsimp only at hSw); go_simp) <;> with_reducible rfl
                try simp only [Act.put, List.setIfInBounds_toArray, List.set_cons_zero, List.set_cons_succ]
                refine takeD (i := 20) (d := some 147) (v := ?_) _ rfl rfl (by kernel_rfl) (by kernel_rfl) (by kernel_rfl) (fun _ _ _ h => h) (by rfl) ?_ (by assumption) ?_
                rotate_left
                · (intro w hSw; (try dsimp only at hSw); go_simp) <;> with_reducible rfl
                try simp only [Act.put, List.setIfInBounds_toArray, List.set_cons_zero, List.set_cons_succ]
                refine takeD (i := 21) (d := some 148) (v := ?_) _ rfl rfl (by kernel_rfl) (by kernel_rfl) (by kernel_rfl) (fun _ _ _ h => h) (by rfl) ?_ (by assumption) ?_
                rotate_left
                · (intro w hSw; (try dsimp only at hSw); go_simp) <;> with_reducible rfl
                try simp only [Act.put, List.setIfInBounds_toArray, List.set_cons_zero, List.set_cons_succ]
                refine takeD (i := 22) (d := some 149) (v := ?_) _ rfl rfl (by kernel_rfl) (by kernel_rfl) (by kernel_rfl) (fun _ _ _ h => h) (by rfl) ?_ (by assumption) ?_
                rotate_left
                · (intro w hSw; (try dsimp only at hSw); go_simp) <;> with_reducible rfl
                try simp only [Act.put, List.setIfInBounds_toArray, List.set_cons_zero, List.set_cons_succ]
                refine takeD (i := 23) (d := some 150) (v := ?_) _ rfl rfl (by kernel_rfl) (by kernel_rfl) (by kernel_rfl) (fun _ _ _ h => h) (by rfl) ?_ (by assumption) ?_
                rotate_left
                · (intro w hSw; (try dsimp only at hSw); go_simp) <;> with_reducible rfl
                try simp only [Act.put, List.setIfInBounds_toArray, List.set_cons_zero, List.set_cons_succ]
                refine wpAnyH_ready (rs := [17]) (by kernel_rfl) (by simp) ?_
                refine AllReadyH.cons rfl (fun K hK => ?_) AllReadyH.nil
                (go_simp; go_at_call 28; refine (LEFT.out _ hHeld.1).mono ?_; rintro e wt ⟨rfl, hbt⟩; try go_wp2_with fail)
                refine hK.out _ _ ?_ (fun hHeld => ?_)
                · exact ⟨hHeld.1.trans (hbt.mono hHeld.1.size), cell_later hbt hHeld.2.1, cell_later hbt hHeld.2.2.1, cell_later hbt hHeld.2.2.2⟩
                clear hK K
                try simp only [Act.put, List.setIfInBounds_toArray, List.set_cons_zero, List.set_cons_succ]
                refine takeD (i := 24) (d := some 151) (v := ?_) _ rfl rfl (by kernel_rfl) (by kernel_rfl) (by kernel_rfl) (fun _ _ _ h => h) (by rfl) ?_ (by assumption) ?_
                rotate_left
                · (intro w hSw; (try dsimp only at hSw); go_simp) <;> with_reducible rfl
                try simp only [Act.put, List.setIfInBounds_toArray, List.set_cons_zero, List.set_cons_succ]
                refine takeD (i := 25) (d := some 152) (v := ?_) _ rfl rfl (by kernel_rfl) (by kernel_rfl) (by kernel_rfl) (fun _ _ _ h => h) (by rfl) ?_ (by assumption) ?_
                rotate_left
                · (intro w hSw; (try dsimp only at hSw); go_simp) <;> with_reducible rfl
                try simp only [Act.put, List.setIfInBounds_toArray, List.set_cons_zero, List.set_cons_succ]
                refine takeD (i := 26) (d := some 153) (v := ?_) _ rfl rfl (by kernel_rfl) (by kernel_rfl) (by kernel_rfl) (fun _ _ _ h => h) (by rfl) ?_ (by assumption) ?_
                rotate_left
                · (intro w hSw; (try dsimp only at hSw); go_simp) <;> with_reducible rfl
                try simp only [Act.put, List.setIfInBounds_toArray, List.set_cons_zero, List.set_cons_succ]
                refine takeD (i := 27) (d := some 154) (v := ?_) _ rfl rfl (by kernel_rfl) (by kernel_rfl) (by kernel_rfl) (fun _ _ _ h => h) (by rfl) ?_ (by assumption) ?_
                rotate_left
                · (intro w hSw; (try dsimp only at hSw); go_simp) <;> with_reducible rfl
                try simp only [Act.put, List.setIfInBounds_toArray, List.set_cons_zero, List.set_cons_succ]
                refine takeD (i := 29) (d := some 156) (v := ?_) _ rfl rfl (by kernel_rfl) (by kernel_rfl) (by kernel_rfl) (fun _ _ _ h => h) (by rfl) ?_ (by assumption) ?_
                rotate_left
                · (intro w hSw; (try dsimp only at hSw); go_simp) <;> with_reducible rfl
                try simp only [Act.put, List.setIfInBounds_toArray, List.set_cons_zero, List.set_cons_succ]
                refine wpAnyH_ready (rs := [28]) (by kernel_rfl) (by simp) ?_
                refine AllReadyH.cons rfl (fun K hK => ?_) AllReadyH.nil
                (go_simp; go_at_call 29; refine (END.out _ hHeld.1).mono ?_; rintro e wt ⟨rfl, hbt⟩; try go_wp2_with fail)
                refine hK.out _ _ ?_ (fun hHeld => ?_)
                · exact ⟨hHeld.1.trans (hbt.mono hHeld.1.size), cell_later hbt hHeld.2.1, cell_later hbt hHeld.2.2.1, cell_later hbt hHeld.2.2.2⟩
                clear hK K
                try simp only [Act.put, List.setIfInBounds_toArray, List.set_cons_zero, List.set_cons_succ]
                refine takeD (i := 30) (d := some 157) (v := ?_) _ rfl rfl (by kernel_rfl) (by kernel_rfl) (by kernel_rfl) (fun _ _ _ h => h) (by rfl) ?_ (by assumption) ?_
                rotate_left
                · (intro w hSw; (try dsimp only at hSw); go_simp) <;> with_reducible rfl
                try simp only [Act.put, List.setIfInBounds_toArray, List.set_cons_zero, List.set_cons_succ]
                refine takeD (i := 31) (d := some 158) (v := ?_) _ rfl rfl (by kernel_rfl) (by kernel_rfl) (by kernel_rfl) (fun _ _ _ h => h) (by rfl) ?_ (by assumption) ?_
                rotate_left
                · (intro w hSw; (try dsimp only at hSw); go_simp) <;> with_reducible rfl
                try simp only [Act.put, List.setIfInBounds_toArray, List.set_cons_zero, List.set_cons_succ]
                refine wpAnyH_done (by kernel_rfl) ?_ _
                have BF := hHeld.1
                have RDn := Lib.hid (HRD.out.below BF)
                have BXn := Lib.hid (HBX.out.below BF)
                have MBn := Lib.hid (HMB.out.below (BF.mono (Nat.le_of_lt HBX.out.lt)))
                have BWn := Lib.hid (HBW.out.trans (BF.mono HBW.out.size))
                clear hHeld BF ERR LEFT END
                go_wp2_with fail
                go_roundw
                case rel => exact ⟨⟨j + 1, atn, ern, h30, hlt, by go_num, RDn.out, BXn.out, MBn.out, BWn.out⟩⟩
                case measure => simp [intOf]; omega
          · have HN : Hid (¬ j < 30) := h30
            have h30I : ¬ (j : Int) < 30 := by omega
            have hltI : (j : Int) < (len1 : Int) := by omega
            have KN := Lib.hid (known_any wr (HL.out.later BW))
            have HBW := Lib.hid BW
            clear RD BX MB BW
            go_wp2_with fail
            refine KN.out.mono ?_
            rintro e W1 ⟨rfl, B1⟩
            go_wp2_with fail
            go_ret
            exact ⟨rfl, HBW.out.trans (B1.mono HBW.out.size)⟩
        · have hltI : ¬ (j : Int) < (len1 : Int) := by omega
          have KN := Lib.hid (known_any wr (HL.out.later BW))
          have HBW := Lib.hid BW
          clear RD BX MB BW
          go_wp2_with fail
          refine KN.out.mono ?_
          rintro e W1 ⟨rfl, B1⟩
          go_wp2_with fail
          go_ret
          exact ⟨rfl, HBW.out.trans (B1.mono HBW.out.size)⟩
end Go.Proofs.YthcegmijphbhgaaDoor
