/-
  What BoardSame's closure makes. Each statement bears its own conditions.
-/
import Derived.Test.YtfmcmhgpgkeplaaBeA
namespace Go.Proofs.Ytfmcmhgpgkeplaa.B
open Go.RowKit Go.Proofs.Ytfmcmhgpgkeplaa.F Go.Proofs.Ytfmcmhgpgkeplaa.I
set_option linter.unusedVariables false
set_option linter.unusedSimpArgs false
theorem results_tmp_cell {P : Program} {fn : Func} {p q : Tmp} {ty : TypeId} (h : fn.results = #[.tmp q, .cell p ty]) (tmps : Array Value) (w : World) (g : Nat) (cs : List Value) (d : TypeDesc)
    (hp : tmps.getD p undef = .pointer (some ⟨g, 0, none⟩)) (hc : w.rangeAt g 0 cs)
    (hu : P.underlying ty = some d) (hd : d.isRow = true) (hi : (P.info? ty).map (·.size) = some cs.length) :
    (results fn tmps).run P w = .ok (.tuple #[tmps.getD q undef, .agg cs.toArray]) w := by
  have hp' : tmps[p]?.getD undef = .pointer (some ⟨g, 0, none⟩) := by simpa using hp
  simp [results, h, hp', asAddr, run_loadVar_mid w g 0 ty cs d hc hu hd hi]
structure MR (lo bw g rb len : Nat) (N : Int) (w : World) (iv : Value) (wr : World) : Prop where
  ex : ∃ (j : Nat) (q : Nat → Prop) (sh : Bool) (M L : List Int) (Am : Option Addr) (cm : Nat) (Al : Option Addr) (cl : Nat), j ≤ len ∧ iv = .int .i64 (j : Int) ∧ PS lo bw wr q g N sh M L Am cm Al cl ∧ L.length ≤ j ∧ Below lo w wr ∧ (¬ q rb ∧ wr.heap[rb]? = some (.cells #[.int .i64 0, .slice none 0 0, .bool false, .slice none 0 0] 31 (0, 0)))
set_option maxRecDepth 100000 in
set_option maxHeartbeats 16000000 in
theorem made_any (nb : Nat) (n : Int) (a : Option Addr) (len cap : Nat) (m1 : List AC) (w : World) (h1 : Row w 3 (RA w) (.slice a len cap) m1) (h40 : len ≤ 40) (hn : 1 ≤ n ∧ n ≤ 32) (hb : w.cell? ⟨nb, 0, none⟩ = some (.int .i64 n)) :
    Calls Try.prog 28 #[.slice a len cap, .pointer (some ⟨nb, 0, none⟩)] w fun e w' => ∃ q g sh M L Am cm Al cl, e = .returned (.tuple #[.pointer (some ⟨g, 0, none⟩), .agg #[.int .i64 n, .slice Am M.length cm, .bool sh, .slice Al L.length cl]]) ∧ BV w.heap.size w' q g n sh M L ∧ Sq w' (fun b => b < w.heap.size) (.slice Am M.length cm) M.length (CU M) ∧ Ow 3 w' (fun b => w.heap.size ≤ b ∧ ¬ q b) (.slice Al L.length cl) L.length (C L) ∧ L.length ≤ 40 ∧ Below w.heap.size w w' := by
  have HR := Lib.hid h1
  have H40 := Lib.hid h40
  have HN := Lib.hid hn
  obtain ⟨lo, hlo⟩ : ∃ lo, w.heap.size = lo := ⟨_, rfl⟩
  have HLO : Hid (lo ≤ w.heap.size ∧ w.heap.size ≤ lo) := by unfold Hid; omega
  obtain ⟨W1, hW1⟩ : ∃ W1, w.alloc (.cells #[.int .i64 0, .slice none 0 0, .bool false, .slice none 0 0] 31) = W1 := ⟨_, rfl⟩
  have b1 : Below w.heap.size w W1 := by rw [← hW1]; exact (Below.refl _ _).alloc (Nat.le_refl _) _
  have hnb1 : W1.cell? ⟨nb, 0, none⟩ = some (.int .i64 n) := cell_later b1 hb
  obtain ⟨rb, hrb⟩ : ∃ rb, w.heap.size = rb := ⟨_, rfl⟩
  have R1 : Hid (W1.heap[rb]? = some (.cells #[.int .i64 0, .slice none 0 0, .bool false, .slice none 0 0] 31 (0, 0))) := by rw [← hW1, ← hrb]; exact heap_alloc_new _ _
  have S1 : Hid (W1.heap.size = rb + 1 ∧ rb = lo) := by rw [← hW1, ← hrb, ← hlo]; exact ⟨by simp, rfl⟩
  have B1 : Hid (Below lo w W1) := by rw [← hlo]; exact b1
  rw [hlo]
  clear h1 h40 hn b1
  go_enter Try.func28, Try.ntmps28
  go_wp2_with fail
  refine (new_any n W1 HN.out.1 HN.out.2).mono ?_
  rintro e w2 ⟨rfl, q2, b2⟩
  obtain ⟨g, hg⟩ : ∃ g, W1.heap.size = g := ⟨_, rfl⟩
  have HG : Hid (lo ≤ g ∧ g = rb + 1) := by unfold Hid; have := S1.out; omega
  rw [hg] at q2 b2
  have Q2 := Lib.hid (q2.less HG.out.1)
  have B2 : Hid (Below lo w w2) := B1.out.trans (b2.mono HG.out.1)
  have hnb2 : w2.cell? ⟨nb, 0, none⟩ = some (.int .i64 n) := cell_later (by rw [hg]; exact b2) hnb1
  have R2 : Hid (w2.heap[rb]? = some (.cells #[.int .i64 0, .slice none 0 0, .bool false, .slice none 0 0] 31 (0, 0))) := (b2.block rb (by have := HG.out; omega)).trans R1.out
  simp only [hg]
  obtain ⟨bw, hbw⟩ : ∃ bw, w2.heap.size = bw := ⟨_, rfl⟩
  have hx : Below w2.heap.size w2 (w2.alloc (.cells #[.int .i64 n, .slice none 0 0, .bool false, .slice none 0 0] 31)) := (Below.refl _ _).alloc (Nat.le_refl _) _
  have P3 : Hid (PS lo bw (w2.alloc (.cells #[.int .i64 n, .slice none 0 0, .bool false, .slice none 0 0] 31)) (fun b => b = g) g n false [] [] none 0 none 0) := by
    have hgl := Q2.out.lt
    exact ⟨Q2.out.below hx, by rw [← hbw]; exact heap_alloc_new w2 _, Sq.nil _ _, Ow.nil _ _ _, ⟨fun h => by have h : bw = g := h; omega, by have := Q2.out.nil; omega⟩, fun h => by cases h⟩
  have B3 : Hid (Below lo w (w2.alloc (.cells #[.int .i64 n, .slice none 0 0, .bool false, .slice none 0 0] 31))) := B2.out.trans (hx.mono Q2.out.nil)
  have R3 : Hid ((w2.alloc (.cells #[.int .i64 n, .slice none 0 0, .bool false, .slice none 0 0] 31)).heap[rb]? = some (.cells #[.int .i64 0, .slice none 0 0, .bool false, .slice none 0 0] 31 (0, 0))) := (hx.block rb (Array.getElem?_eq_some_iff.1 R2.out).1).trans R2.out
  have HRB : Hid (rb ≠ bw) := by unfold Hid; have := (Array.getElem?_eq_some_iff.1 R2.out).1; omega
  clear q2 b2 hg hx Q2 B2 hnb1 R1 R2 hW1 hb hrb hlo
  go_wp2_with fail
  try simp only [hbw]
  clear hbw
  go_loopw [19] (fun iv wr => MR lo bw g rb len n w iv wr) (fun i _ => 41 - (intOf i).toNat)
  case atStart => exact ⟨⟨0, _, false, [], [], none, 0, none, 0, Nat.zero_le _, rfl, P3.out, Nat.le_refl _, B3.out, fun h => by have h : rb = g := h; have := HG.out; omega, R3.out⟩⟩
  case round =>
    obtain ⟨⟨j, q, sh, M, L, Am, cm, Al, cl, hj, rfl, hps, hll, hb, hrbq⟩⟩ := hrel
    have HB := Lib.hid hb
    have HP := Lib.hid hps
    have HL := Lib.hid hll
    have HGR := Lib.hid hrbq
    clear hb hps hll hrbq
    by_cases hlt : j < len
    · have hjI : (j : Int) < (len : Int) := by omega
      have hj40 : (j : Int) < 40 := by have := H40.out; omega
      have HX : Hid (j < len) := hlt
      have HJ : Hid (j ≤ 40) := by have := H40.out; unfold Hid; omega
      obtain ⟨hlen, b, off, x, cs, hax, hbl, _, hRA, _, hc⟩ := HR.out.at_ j hlt
      clear hlen
      subst hax
      obtain ⟨v', rfl, hxd, hK⟩ := hRA
      have e0 : wr.cell? ⟨b, off + j * 3, none⟩ = some (.int .u8 x.d) := cell_low HB.out (by have := HLO.out; omega) (hc 0 _ rfl)
      have e1 : wr.cell? ⟨b, off + j * 3 + 1, none⟩ = some (.int .i64 x.id) := cell_low HB.out (by have := HLO.out; omega) (hc 1 _ rfl)
      have e2 : wr.cell? ⟨b, off + j * 3 + 2, none⟩ = some v' := cell_low HB.out (by have := HLO.out; omega) (hc 2 _ rfl)
      obtain ⟨Ak, ck, rfl⟩ := hK.form
      have HKS : Hid (Sq wr (fun b => b < lo) (.slice Ak x.m.length ck) x.m.length (CU x.m)) := sq_low (hK.imp fun b _ hb => by have := HLO.out; omega) HB.out
      obtain ⟨nk, hnk⟩ : ∃ nk, x.m.length = nk := ⟨_, rfl⟩
      have HNK : Hid (x.m.length = nk) := hnk
      have HD : Hid (0 ≤ x.d ∧ x.d < 256) := hxd
      rw [hnk] at e2 HKS
      obtain ⟨a9, ha9⟩ : ∃ a9, wr.heap.size = a9 := ⟨_, rfl⟩
      obtain ⟨WA, hWA⟩ : ∃ WA, wr.alloc (.cells #[.int .u8 x.d, .int .i64 x.id, .slice Ak nk ck] 33) = WA := ⟨_, rfl⟩
      have hx9 : Below wr.heap.size wr WA := by rw [← hWA]; exact (Below.refl _ _).alloc (Nat.le_refl _) _
      have PA := Lib.hid (HP.out.below hx9)
      have XA : Hid (AX lo bw a9 WA q x Ak nk ck) := by
        refine ⟨by rw [← ha9, ← hWA]; exact heap_alloc_new wr _, ⟨fun hq => by have := (HP.out.bv.low a9 hq).2; omega, by have := HP.out.bv.nil; omega, by have := HP.out.blt; omega⟩, HKS.out.belowP hx9⟩
      have BA : Hid (Below lo w WA) := HB.out.trans (hx9.mono HP.out.bv.nil)
      have GA : Hid (¬ q rb ∧ WA.heap[rb]? = some (.cells #[.int .i64 0, .slice none 0 0, .bool false, .slice none 0 0] 31 (0, 0))) := ⟨HGR.out.1, (hx9.block rb (Array.getElem?_eq_some_iff.1 HGR.out.2).1).trans HGR.out.2⟩
      clear hc hbl hlt hj hK hnk hxd hx9 HB HP HGR
      have x0 : WA.cell? ⟨a9, 0, none⟩ = some (.int .u8 x.d) := by rw [(row_cell XA.out.bx 0).1]; rfl
      have x1 : WA.cell? ⟨a9, 1, none⟩ = some (.int .i64 x.id) := by rw [(row_cell XA.out.bx 1).1]; rfl
      have x2 : WA.cell? ⟨a9, 2, none⟩ = some (.slice Ak nk ck) := by rw [(row_cell XA.out.bx 2).1]; rfl
      have y0 : WA.cell? ⟨bw, 0, none⟩ = some (.int .i64 n) := by rw [(row_cell PA.out.bx 0).1]; rfl
      have yf0 : WA.frozen? ⟨bw, 0, none⟩ = false := (row_cell PA.out.bx 0).2
      have y1 : WA.cell? ⟨bw, 1, none⟩ = some (.slice Am M.length cm) := by rw [(row_cell PA.out.bx 1).1]; rfl
      have yf1 : WA.frozen? ⟨bw, 1, none⟩ = false := (row_cell PA.out.bx 1).2
      have y2 : WA.cell? ⟨bw, 2, none⟩ = some (.bool sh) := by rw [(row_cell PA.out.bx 2).1]; rfl
      have yf2 : WA.frozen? ⟨bw, 2, none⟩ = false := (row_cell PA.out.bx 2).2
      have y3 : WA.cell? ⟨bw, 3, none⟩ = some (.slice Al L.length cl) := by rw [(row_cell PA.out.bx 3).1]; rfl
      have yf3 : WA.frozen? ⟨bw, 3, none⟩ = false := (row_cell PA.out.bx 3).2
      by_cases h0 : x.d.tmod 8 = 0
      · have hb0 : (x.d.tmod 8 == 0) = true := by rw [beq_iff_eq]; exact h0
        clear h0
        by_cases hfit : (nk : Int) ≤ n
        · skip
          have hm : Sq WA (fun b => b < lo) (.slice Ak nk ck) x.m.length (CU x.m) := by rw [HNK.out]; exact XA.out.ms
          go_wp2_with fail
          refine (show_any lo q g n sh M L _ _ x.m WA PA.out.bv hm (by rw [HNK.out]; exact hfit)).mono ?_
          rintro e w4 ⟨r, q4, rfl, o4, p4, n4⟩
          obtain ⟨A4, c4, rfl⟩ := o4.sl
          clear hm o4
          have hlow : ∀ b, q b → lo ≤ b := fun b hb => (PA.out.bv.low b hb).1
          have P4 := Lib.hid p4
          have B4 : Hid (Below lo w w4) := BA.out.trans (PA.out.bv.nx n4)
          have L4 := Lib.hid (PA.out.ls.nx n4)
          have X4 := Lib.hid (XA.out.nx n4 hlow)
          have M4 := Lib.hid ((PA.out.ms.keep n4.fo.size fun b hb hp => n4.fo.block b hb (fun hr => by have := hlow b hr; omega)).imp fun b _ hb => hb.2)
          have E4 : Hid (¬ q4 bw) := fun h => by
            rcases n4.sub bw h with h1 | h1
            · exact PA.out.nq.1 h1
            · have := PA.out.blt; omega
          have G4 : Hid (¬ q4 rb ∧ w4.heap[rb]? = some (.cells #[.int .i64 0, .slice none 0 0, .bool false, .slice none 0 0] 31 (0, 0))) := ⟨fun h => by
            rcases n4.sub rb h with h1 | h1
            · exact GA.out.1 h1
            · have := (Array.getElem?_eq_some_iff.1 GA.out.2).1; omega, (n4.fo.block rb (Array.getElem?_eq_some_iff.1 GA.out.2).1 GA.out.1).trans GA.out.2⟩
          have Z4 := Lib.hid ((n4.fo.block bw PA.out.blt PA.out.nq.1).trans PA.out.bx)
          clear n4 hlow x0 x1 x2 y0 y1 y2 y3 yf0 yf1 yf2 yf3
          have x0 : w4.cell? ⟨a9, 0, none⟩ = some (.int .u8 x.d) := by rw [(row_cell X4.out.bx 0).1]; rfl
          have x1 : w4.cell? ⟨a9, 1, none⟩ = some (.int .i64 x.id) := by rw [(row_cell X4.out.bx 1).1]; rfl
          have x2 : w4.cell? ⟨a9, 2, none⟩ = some (.slice Ak nk ck) := by rw [(row_cell X4.out.bx 2).1]; rfl
          have y0 : w4.cell? ⟨bw, 0, none⟩ = some (.int .i64 n) := by rw [(row_cell Z4.out 0).1]; rfl
          have yf0 : w4.frozen? ⟨bw, 0, none⟩ = false := (row_cell Z4.out 0).2
          have y1 : w4.cell? ⟨bw, 1, none⟩ = some (.slice Am M.length cm) := by rw [(row_cell Z4.out 1).1]; rfl
          have yf1 : w4.frozen? ⟨bw, 1, none⟩ = false := (row_cell Z4.out 1).2
          have y2 : w4.cell? ⟨bw, 2, none⟩ = some (.bool sh) := by rw [(row_cell Z4.out 2).1]; rfl
          have yf2 : w4.frozen? ⟨bw, 2, none⟩ = false := (row_cell Z4.out 2).2
          have y3 : w4.cell? ⟨bw, 3, none⟩ = some (.slice Al L.length cl) := by rw [(row_cell Z4.out 3).1]; rfl
          have yf3 : w4.frozen? ⟨bw, 3, none⟩ = false := (row_cell Z4.out 3).2
          clear p4
          go_wp2_with fail
          refine (rshow_ok n Am M.length cm Al L.length cl sh Ak nk ck w4 hfit).mono ?_
          rintro e w5 ⟨rfl, b5⟩
          have P5 := Lib.hid (P4.out.below b5)
          have M5 := Lib.hid (X4.out.ms.belowP b5)
          have Z5 := Lib.hid ((b5.block bw (Array.getElem?_eq_some_iff.1 Z4.out).1).trans Z4.out)
          have B5 : Hid (Below lo w w5) := B4.out.trans (b5.mono P4.out.nil)
          have G5 : Hid (¬ q4 rb ∧ w5.heap[rb]? = some (.cells #[.int .i64 0, .slice none 0 0, .bool false, .slice none 0 0] 31 (0, 0))) := ⟨G4.out.1, (b5.block rb (Array.getElem?_eq_some_iff.1 G4.out.2).1).trans G4.out.2⟩
          clear b5 P4 L4 X4 M4 Z4 B4 G4 x0 x1 x2 y0 y1 y2 y3 yf0 yf1 yf2 yf3
          have y0 : w5.cell? ⟨bw, 0, none⟩ = some (.int .i64 n) := by rw [(row_cell Z5.out 0).1]; rfl
          have yf0 : w5.frozen? ⟨bw, 0, none⟩ = false := (row_cell Z5.out 0).2
          have y1 : w5.cell? ⟨bw, 1, none⟩ = some (.slice Am M.length cm) := by rw [(row_cell Z5.out 1).1]; rfl
          have yf1 : w5.frozen? ⟨bw, 1, none⟩ = false := (row_cell Z5.out 1).2
          have y2 : w5.cell? ⟨bw, 2, none⟩ = some (.bool sh) := by rw [(row_cell Z5.out 2).1]; rfl
          have yf2 : w5.frozen? ⟨bw, 2, none⟩ = false := (row_cell Z5.out 2).2
          have y3 : w5.cell? ⟨bw, 3, none⟩ = some (.slice Al L.length cl) := by rw [(row_cell Z5.out 3).1]; rfl
          have yf3 : w5.frozen? ⟨bw, 3, none⟩ = false := (row_cell Z5.out 3).2
          have Q := PS.put (M := x.m) (Am := Ak) (cm := ck) (Al := none) (cl := 0) (sh := true) P5.out Z5.out (by rw [HNK.out]; exact M5.out) (Ow.nil _ _ _) ⟨E4.out, PA.out.nq.2⟩ (fun _ => rfl)
          rw [HNK.out] at Q
          have Q1 := Lib.hid Q.1
          have Q2 : Hid (Below lo w _) := B5.out.trans Q.2
          have GQ : Hid (¬ q4 rb ∧ (((((w5.setCell ⟨bw, 0, none⟩ (.int .i64 n)).setCell ⟨bw, 1, none⟩ (.slice Ak nk ck)).setCell ⟨bw, 2, none⟩ (.bool true)).setCell ⟨bw, 3, none⟩ (.slice none 0 0))).heap[rb]? = some (.cells #[.int .i64 0, .slice none 0 0, .bool false, .slice none 0 0] 31 (0, 0))) := ⟨G5.out.1, by
            rw [set_far _ _ HRB.out, set_far _ _ HRB.out, set_far _ _ HRB.out, set_far _ _ HRB.out]; exact G5.out.2⟩
          clear Q Z5 P5  M5 B5 G5
          go_wp2_with fail
          go_roundw
          case rel =>
            have Q : MR lo bw g rb len n w (.int .i64 ((j : Int) + 1)) _ := ⟨⟨j + 1, q4, true, x.m, [], Ak, ck, none, 0, HX.out, by go_num, Q1.out, Nat.zero_le _, Q2.out, GQ.out⟩⟩
            first | exact Q | ((repeat apply Exists.intro); exact ⟨Q, rfl⟩)
          case measure => have := HX.out; have := H40.out; simp [intOf]; omega
        · skip
          have hm : Sq WA (fun b => b < lo) (.slice Ak nk ck) x.m.length (CU x.m) := by rw [HNK.out]; exact XA.out.ms
          go_wp2_with fail
          refine (show_big lo q g n sh M L _ _ x.m WA PA.out.bv hm (by rw [HNK.out]; omega)).mono ?_
          rintro e w4 ⟨rfl, hw⟩
          have hw := hw.symm
          subst hw
          clear hm
          go_wp2_with fail
          refine (rshow_big n Am M.length cm Al L.length cl sh Ak nk ck WA (by omega)).mono ?_
          rintro e w5 ⟨rfl, b5⟩
          have P4 := Lib.hid PA.out.bv
          have L4 := Lib.hid PA.out.ls
          have X4 := XA
          have M4 := Lib.hid PA.out.ms
          have Z4 := Lib.hid PA.out.bx
          have B4 := BA
          have G4 := GA
          have P5 := Lib.hid (P4.out.below b5)
          have L5 := Lib.hid (L4.out.below b5)
          have M5 := Lib.hid (M4.out.belowP b5)
          have Z5 := Lib.hid ((b5.block bw (Array.getElem?_eq_some_iff.1 Z4.out).1).trans Z4.out)
          have B5 : Hid (Below lo w w5) := B4.out.trans (b5.mono P4.out.nil)
          have G5 : Hid (¬ q rb ∧ w5.heap[rb]? = some (.cells #[.int .i64 0, .slice none 0 0, .bool false, .slice none 0 0] 31 (0, 0))) := ⟨G4.out.1, (b5.block rb (Array.getElem?_eq_some_iff.1 G4.out.2).1).trans G4.out.2⟩
          clear b5 P4 L4 X4 M4 Z4 B4 G4 x0 x1 x2 y0 y1 y2 y3 yf0 yf1 yf2 yf3
          have y0 : w5.cell? ⟨bw, 0, none⟩ = some (.int .i64 n) := by rw [(row_cell Z5.out 0).1]; rfl
          have yf0 : w5.frozen? ⟨bw, 0, none⟩ = false := (row_cell Z5.out 0).2
          have y1 : w5.cell? ⟨bw, 1, none⟩ = some (.slice Am M.length cm) := by rw [(row_cell Z5.out 1).1]; rfl
          have yf1 : w5.frozen? ⟨bw, 1, none⟩ = false := (row_cell Z5.out 1).2
          have y2 : w5.cell? ⟨bw, 2, none⟩ = some (.bool sh) := by rw [(row_cell Z5.out 2).1]; rfl
          have yf2 : w5.frozen? ⟨bw, 2, none⟩ = false := (row_cell Z5.out 2).2
          have y3 : w5.cell? ⟨bw, 3, none⟩ = some (.slice Al L.length cl) := by rw [(row_cell Z5.out 3).1]; rfl
          have yf3 : w5.frozen? ⟨bw, 3, none⟩ = false := (row_cell Z5.out 3).2
          have Q := PS.put P5.out Z5.out M5.out L5.out PA.out.nq PA.out.nu
          have Q1 := Lib.hid Q.1
          have Q2 : Hid (Below lo w _) := B5.out.trans Q.2
          have GQ : Hid (¬ q rb ∧ (((((w5.setCell ⟨bw, 0, none⟩ (.int .i64 n)).setCell ⟨bw, 1, none⟩ (.slice Am M.length cm)).setCell ⟨bw, 2, none⟩ (.bool sh)).setCell ⟨bw, 3, none⟩ (.slice Al L.length cl))).heap[rb]? = some (.cells #[.int .i64 0, .slice none 0 0, .bool false, .slice none 0 0] 31 (0, 0))) := ⟨G5.out.1, by
            rw [set_far _ _ HRB.out, set_far _ _ HRB.out, set_far _ _ HRB.out, set_far _ _ HRB.out]; exact G5.out.2⟩
          clear Q Z5 P5 L5 M5 B5 G5
          go_wp2_with fail
          go_roundw
          case rel =>
            have Q : MR lo bw g rb len n w (.int .i64 ((j : Int) + 1)) _ := ⟨⟨j + 1, q, sh, M, L, Am, cm, Al, cl, HX.out, by go_num, Q1.out, Nat.le_succ_of_le HL.out, Q2.out, GQ.out⟩⟩
            first | exact Q | ((repeat apply Exists.intro); exact ⟨Q, rfl⟩)
          case measure => have := HX.out; have := H40.out; simp [intOf]; omega
      have hb0 : (x.d.tmod 8 == 0) = false := by rw [beq_eq_false_iff_ne]; exact h0
      by_cases h1 : x.d.tmod 8 = 1
      · have hb1 : (x.d.tmod 8 == 1) = true := by rw [beq_iff_eq]; exact h1
        clear h1
        clear h0
        by_cases hfit : (nk : Int) ≤ n
        · skip
          have hm : Sq WA (fun b => b < lo) (.slice Ak nk ck) x.m.length (CU x.m) := by rw [HNK.out]; exact XA.out.ms
          go_wp2_with fail
          refine (show_any lo q g n sh M L _ _ x.m WA PA.out.bv hm (by rw [HNK.out]; exact hfit)).mono ?_
          rintro e w4 ⟨r, q4, rfl, o4, p4, n4⟩
          obtain ⟨A4, c4, rfl⟩ := o4.sl
          clear hm o4
          have hlow : ∀ b, q b → lo ≤ b := fun b hb => (PA.out.bv.low b hb).1
          have P4 := Lib.hid p4
          have B4 : Hid (Below lo w w4) := BA.out.trans (PA.out.bv.nx n4)
          have L4 := Lib.hid (PA.out.ls.nx n4)
          have X4 := Lib.hid (XA.out.nx n4 hlow)
          have M4 := Lib.hid ((PA.out.ms.keep n4.fo.size fun b hb hp => n4.fo.block b hb (fun hr => by have := hlow b hr; omega)).imp fun b _ hb => hb.2)
          have E4 : Hid (¬ q4 bw) := fun h => by
            rcases n4.sub bw h with h1 | h1
            · exact PA.out.nq.1 h1
            · have := PA.out.blt; omega
          have G4 : Hid (¬ q4 rb ∧ w4.heap[rb]? = some (.cells #[.int .i64 0, .slice none 0 0, .bool false, .slice none 0 0] 31 (0, 0))) := ⟨fun h => by
            rcases n4.sub rb h with h1 | h1
            · exact GA.out.1 h1
            · have := (Array.getElem?_eq_some_iff.1 GA.out.2).1; omega, (n4.fo.block rb (Array.getElem?_eq_some_iff.1 GA.out.2).1 GA.out.1).trans GA.out.2⟩
          have Z4 := Lib.hid ((n4.fo.block bw PA.out.blt PA.out.nq.1).trans PA.out.bx)
          clear n4 hlow x0 x1 x2 y0 y1 y2 y3 yf0 yf1 yf2 yf3
          have x0 : w4.cell? ⟨a9, 0, none⟩ = some (.int .u8 x.d) := by rw [(row_cell X4.out.bx 0).1]; rfl
          have x1 : w4.cell? ⟨a9, 1, none⟩ = some (.int .i64 x.id) := by rw [(row_cell X4.out.bx 1).1]; rfl
          have x2 : w4.cell? ⟨a9, 2, none⟩ = some (.slice Ak nk ck) := by rw [(row_cell X4.out.bx 2).1]; rfl
          have y0 : w4.cell? ⟨bw, 0, none⟩ = some (.int .i64 n) := by rw [(row_cell Z4.out 0).1]; rfl
          have yf0 : w4.frozen? ⟨bw, 0, none⟩ = false := (row_cell Z4.out 0).2
          have y1 : w4.cell? ⟨bw, 1, none⟩ = some (.slice Am M.length cm) := by rw [(row_cell Z4.out 1).1]; rfl
          have yf1 : w4.frozen? ⟨bw, 1, none⟩ = false := (row_cell Z4.out 1).2
          have y2 : w4.cell? ⟨bw, 2, none⟩ = some (.bool sh) := by rw [(row_cell Z4.out 2).1]; rfl
          have yf2 : w4.frozen? ⟨bw, 2, none⟩ = false := (row_cell Z4.out 2).2
          have y3 : w4.cell? ⟨bw, 3, none⟩ = some (.slice Al L.length cl) := by rw [(row_cell Z4.out 3).1]; rfl
          have yf3 : w4.frozen? ⟨bw, 3, none⟩ = false := (row_cell Z4.out 3).2
          clear p4
          go_wp2_with fail
          refine (rshow_ok n Am M.length cm Al L.length cl sh Ak nk ck w4 hfit).mono ?_
          rintro e w5 ⟨rfl, b5⟩
          have P5 := Lib.hid (P4.out.below b5)
          have M5 := Lib.hid (X4.out.ms.belowP b5)
          have Z5 := Lib.hid ((b5.block bw (Array.getElem?_eq_some_iff.1 Z4.out).1).trans Z4.out)
          have B5 : Hid (Below lo w w5) := B4.out.trans (b5.mono P4.out.nil)
          have G5 : Hid (¬ q4 rb ∧ w5.heap[rb]? = some (.cells #[.int .i64 0, .slice none 0 0, .bool false, .slice none 0 0] 31 (0, 0))) := ⟨G4.out.1, (b5.block rb (Array.getElem?_eq_some_iff.1 G4.out.2).1).trans G4.out.2⟩
          clear b5 P4 L4 X4 M4 Z4 B4 G4 x0 x1 x2 y0 y1 y2 y3 yf0 yf1 yf2 yf3
          have y0 : w5.cell? ⟨bw, 0, none⟩ = some (.int .i64 n) := by rw [(row_cell Z5.out 0).1]; rfl
          have yf0 : w5.frozen? ⟨bw, 0, none⟩ = false := (row_cell Z5.out 0).2
          have y1 : w5.cell? ⟨bw, 1, none⟩ = some (.slice Am M.length cm) := by rw [(row_cell Z5.out 1).1]; rfl
          have yf1 : w5.frozen? ⟨bw, 1, none⟩ = false := (row_cell Z5.out 1).2
          have y2 : w5.cell? ⟨bw, 2, none⟩ = some (.bool sh) := by rw [(row_cell Z5.out 2).1]; rfl
          have yf2 : w5.frozen? ⟨bw, 2, none⟩ = false := (row_cell Z5.out 2).2
          have y3 : w5.cell? ⟨bw, 3, none⟩ = some (.slice Al L.length cl) := by rw [(row_cell Z5.out 3).1]; rfl
          have yf3 : w5.frozen? ⟨bw, 3, none⟩ = false := (row_cell Z5.out 3).2
          have Q := PS.put (M := x.m) (Am := Ak) (cm := ck) (Al := none) (cl := 0) (sh := true) P5.out Z5.out (by rw [HNK.out]; exact M5.out) (Ow.nil _ _ _) ⟨E4.out, PA.out.nq.2⟩ (fun _ => rfl)
          rw [HNK.out] at Q
          have Q1 := Lib.hid Q.1
          have Q2 : Hid (Below lo w _) := B5.out.trans Q.2
          have GQ : Hid (¬ q4 rb ∧ (((((w5.setCell ⟨bw, 0, none⟩ (.int .i64 n)).setCell ⟨bw, 1, none⟩ (.slice Ak nk ck)).setCell ⟨bw, 2, none⟩ (.bool true)).setCell ⟨bw, 3, none⟩ (.slice none 0 0))).heap[rb]? = some (.cells #[.int .i64 0, .slice none 0 0, .bool false, .slice none 0 0] 31 (0, 0))) := ⟨G5.out.1, by
            rw [set_far _ _ HRB.out, set_far _ _ HRB.out, set_far _ _ HRB.out, set_far _ _ HRB.out]; exact G5.out.2⟩
          clear Q Z5 P5  M5 B5 G5
          go_wp2_with fail
          go_roundw
          case rel =>
            have Q : MR lo bw g rb len n w (.int .i64 ((j : Int) + 1)) _ := ⟨⟨j + 1, q4, true, x.m, [], Ak, ck, none, 0, HX.out, by go_num, Q1.out, Nat.zero_le _, Q2.out, GQ.out⟩⟩
            first | exact Q | ((repeat apply Exists.intro); exact ⟨Q, rfl⟩)
          case measure => have := HX.out; have := H40.out; simp [intOf]; omega
        · skip
          have hm : Sq WA (fun b => b < lo) (.slice Ak nk ck) x.m.length (CU x.m) := by rw [HNK.out]; exact XA.out.ms
          go_wp2_with fail
          refine (show_big lo q g n sh M L _ _ x.m WA PA.out.bv hm (by rw [HNK.out]; omega)).mono ?_
          rintro e w4 ⟨rfl, hw⟩
          have hw := hw.symm
          subst hw
          clear hm
          go_wp2_with fail
          refine (rshow_big n Am M.length cm Al L.length cl sh Ak nk ck WA (by omega)).mono ?_
          rintro e w5 ⟨rfl, b5⟩
          have P4 := Lib.hid PA.out.bv
          have L4 := Lib.hid PA.out.ls
          have X4 := XA
          have M4 := Lib.hid PA.out.ms
          have Z4 := Lib.hid PA.out.bx
          have B4 := BA
          have G4 := GA
          have P5 := Lib.hid (P4.out.below b5)
          have L5 := Lib.hid (L4.out.below b5)
          have M5 := Lib.hid (M4.out.belowP b5)
          have Z5 := Lib.hid ((b5.block bw (Array.getElem?_eq_some_iff.1 Z4.out).1).trans Z4.out)
          have B5 : Hid (Below lo w w5) := B4.out.trans (b5.mono P4.out.nil)
          have G5 : Hid (¬ q rb ∧ w5.heap[rb]? = some (.cells #[.int .i64 0, .slice none 0 0, .bool false, .slice none 0 0] 31 (0, 0))) := ⟨G4.out.1, (b5.block rb (Array.getElem?_eq_some_iff.1 G4.out.2).1).trans G4.out.2⟩
          clear b5 P4 L4 X4 M4 Z4 B4 G4 x0 x1 x2 y0 y1 y2 y3 yf0 yf1 yf2 yf3
          have y0 : w5.cell? ⟨bw, 0, none⟩ = some (.int .i64 n) := by rw [(row_cell Z5.out 0).1]; rfl
          have yf0 : w5.frozen? ⟨bw, 0, none⟩ = false := (row_cell Z5.out 0).2
          have y1 : w5.cell? ⟨bw, 1, none⟩ = some (.slice Am M.length cm) := by rw [(row_cell Z5.out 1).1]; rfl
          have yf1 : w5.frozen? ⟨bw, 1, none⟩ = false := (row_cell Z5.out 1).2
          have y2 : w5.cell? ⟨bw, 2, none⟩ = some (.bool sh) := by rw [(row_cell Z5.out 2).1]; rfl
          have yf2 : w5.frozen? ⟨bw, 2, none⟩ = false := (row_cell Z5.out 2).2
          have y3 : w5.cell? ⟨bw, 3, none⟩ = some (.slice Al L.length cl) := by rw [(row_cell Z5.out 3).1]; rfl
          have yf3 : w5.frozen? ⟨bw, 3, none⟩ = false := (row_cell Z5.out 3).2
          have Q := PS.put P5.out Z5.out M5.out L5.out PA.out.nq PA.out.nu
          have Q1 := Lib.hid Q.1
          have Q2 : Hid (Below lo w _) := B5.out.trans Q.2
          have GQ : Hid (¬ q rb ∧ (((((w5.setCell ⟨bw, 0, none⟩ (.int .i64 n)).setCell ⟨bw, 1, none⟩ (.slice Am M.length cm)).setCell ⟨bw, 2, none⟩ (.bool sh)).setCell ⟨bw, 3, none⟩ (.slice Al L.length cl))).heap[rb]? = some (.cells #[.int .i64 0, .slice none 0 0, .bool false, .slice none 0 0] 31 (0, 0))) := ⟨G5.out.1, by
            rw [set_far _ _ HRB.out, set_far _ _ HRB.out, set_far _ _ HRB.out, set_far _ _ HRB.out]; exact G5.out.2⟩
          clear Q Z5 P5 L5 M5 B5 G5
          go_wp2_with fail
          go_roundw
          case rel =>
            have Q : MR lo bw g rb len n w (.int .i64 ((j : Int) + 1)) _ := ⟨⟨j + 1, q, sh, M, L, Am, cm, Al, cl, HX.out, by go_num, Q1.out, Nat.le_succ_of_le HL.out, Q2.out, GQ.out⟩⟩
            first | exact Q | ((repeat apply Exists.intro); exact ⟨Q, rfl⟩)
          case measure => have := HX.out; have := H40.out; simp [intOf]; omega
      have hb1 : (x.d.tmod 8 == 1) = false := by rw [beq_eq_false_iff_ne]; exact h1
      clear h0 h1
      by_cases h2 : x.d.tmod 8 = 2
      · have hb2 : (x.d.tmod 8 == 2) = true := by rw [beq_iff_eq]; exact h2
        clear h2
        go_wp2_with fail
        refine (clear_any lo q g n sh M L WA PA.out.bv).mono ?_
        rintro e w4 ⟨rfl, p4, n4⟩
        have hlow : ∀ b, q b → lo ≤ b := fun b hb => (PA.out.bv.low b hb).1
        have P4 := Lib.hid p4
        have B4 : Hid (Below lo w w4) := BA.out.trans (PA.out.bv.nx n4)
        have L4 := Lib.hid (PA.out.ls.nx n4)
        have X4 := Lib.hid (XA.out.nx n4 hlow)
        have M4 := Lib.hid ((PA.out.ms.keep n4.fo.size fun b hb hp => n4.fo.block b hb (fun hr => by have := hlow b hr; omega)).imp fun b _ hb => hb.2)
        have E4 : Hid (¬ q bw) := fun h => by
          rcases n4.sub bw h with h1 | h1
          · exact PA.out.nq.1 h1
          · have := PA.out.blt; omega
        have G4 : Hid (¬ q rb ∧ w4.heap[rb]? = some (.cells #[.int .i64 0, .slice none 0 0, .bool false, .slice none 0 0] 31 (0, 0))) := ⟨fun h => by
          rcases n4.sub rb h with h1 | h1
          · exact GA.out.1 h1
          · have := (Array.getElem?_eq_some_iff.1 GA.out.2).1; omega, (n4.fo.block rb (Array.getElem?_eq_some_iff.1 GA.out.2).1 GA.out.1).trans GA.out.2⟩
        have Z4 := Lib.hid ((n4.fo.block bw PA.out.blt PA.out.nq.1).trans PA.out.bx)
        clear n4 hlow x0 x1 x2 y0 y1 y2 y3 yf0 yf1 yf2 yf3
        have x0 : w4.cell? ⟨a9, 0, none⟩ = some (.int .u8 x.d) := by rw [(row_cell X4.out.bx 0).1]; rfl
        have x1 : w4.cell? ⟨a9, 1, none⟩ = some (.int .i64 x.id) := by rw [(row_cell X4.out.bx 1).1]; rfl
        have x2 : w4.cell? ⟨a9, 2, none⟩ = some (.slice Ak nk ck) := by rw [(row_cell X4.out.bx 2).1]; rfl
        have y0 : w4.cell? ⟨bw, 0, none⟩ = some (.int .i64 n) := by rw [(row_cell Z4.out 0).1]; rfl
        have yf0 : w4.frozen? ⟨bw, 0, none⟩ = false := (row_cell Z4.out 0).2
        have y1 : w4.cell? ⟨bw, 1, none⟩ = some (.slice Am M.length cm) := by rw [(row_cell Z4.out 1).1]; rfl
        have yf1 : w4.frozen? ⟨bw, 1, none⟩ = false := (row_cell Z4.out 1).2
        have y2 : w4.cell? ⟨bw, 2, none⟩ = some (.bool sh) := by rw [(row_cell Z4.out 2).1]; rfl
        have yf2 : w4.frozen? ⟨bw, 2, none⟩ = false := (row_cell Z4.out 2).2
        have y3 : w4.cell? ⟨bw, 3, none⟩ = some (.slice Al L.length cl) := by rw [(row_cell Z4.out 3).1]; rfl
        have yf3 : w4.frozen? ⟨bw, 3, none⟩ = false := (row_cell Z4.out 3).2
        clear p4
        go_wp2_with fail
        refine (rclear_any n Am M.length cm Al L.length cl sh w4).mono ?_
        rintro e w5 ⟨rfl, b5⟩
        have P5 := Lib.hid (P4.out.below b5)
        have L5 := Lib.hid (L4.out.below b5)
        have M5 := Lib.hid (M4.out.belowP b5)
        have Z5 := Lib.hid ((b5.block bw (Array.getElem?_eq_some_iff.1 Z4.out).1).trans Z4.out)
        have B5 : Hid (Below lo w w5) := B4.out.trans (b5.mono P4.out.nil)
        have G5 : Hid (¬ q rb ∧ w5.heap[rb]? = some (.cells #[.int .i64 0, .slice none 0 0, .bool false, .slice none 0 0] 31 (0, 0))) := ⟨G4.out.1, (b5.block rb (Array.getElem?_eq_some_iff.1 G4.out.2).1).trans G4.out.2⟩
        clear b5 P4 L4 X4 M4 Z4 B4 G4 x0 x1 x2 y0 y1 y2 y3 yf0 yf1 yf2 yf3
        have y0 : w5.cell? ⟨bw, 0, none⟩ = some (.int .i64 n) := by rw [(row_cell Z5.out 0).1]; rfl
        have yf0 : w5.frozen? ⟨bw, 0, none⟩ = false := (row_cell Z5.out 0).2
        have y1 : w5.cell? ⟨bw, 1, none⟩ = some (.slice Am M.length cm) := by rw [(row_cell Z5.out 1).1]; rfl
        have yf1 : w5.frozen? ⟨bw, 1, none⟩ = false := (row_cell Z5.out 1).2
        have y2 : w5.cell? ⟨bw, 2, none⟩ = some (.bool sh) := by rw [(row_cell Z5.out 2).1]; rfl
        have yf2 : w5.frozen? ⟨bw, 2, none⟩ = false := (row_cell Z5.out 2).2
        have y3 : w5.cell? ⟨bw, 3, none⟩ = some (.slice Al L.length cl) := by rw [(row_cell Z5.out 3).1]; rfl
        have yf3 : w5.frozen? ⟨bw, 3, none⟩ = false := (row_cell Z5.out 3).2
        have Q := PS.put (Am := none) (cm := 0) P5.out Z5.out (Sq.nil _ _) L5.out PA.out.nq (fun h => by cases h)
        have Q1 := Lib.hid Q.1
        have Q2 : Hid (Below lo w _) := B5.out.trans Q.2
        have GQ : Hid (¬ q rb ∧ (((((w5.setCell ⟨bw, 0, none⟩ (.int .i64 n)).setCell ⟨bw, 1, none⟩ (.slice none 0 0)).setCell ⟨bw, 2, none⟩ (.bool false)).setCell ⟨bw, 3, none⟩ (.slice Al L.length cl))).heap[rb]? = some (.cells #[.int .i64 0, .slice none 0 0, .bool false, .slice none 0 0] 31 (0, 0))) := ⟨G5.out.1, by
          rw [set_far _ _ HRB.out, set_far _ _ HRB.out, set_far _ _ HRB.out, set_far _ _ HRB.out]; exact G5.out.2⟩
        clear Q Z5 P5 L5 M5 B5 G5
        go_wp2_with fail
        go_roundw
        case rel =>
          have Q : MR lo bw g rb len n w (.int .i64 ((j : Int) + 1)) _ := ⟨⟨j + 1, q, false, [], L, none, 0, Al, cl, HX.out, by go_num, Q1.out, Nat.le_succ_of_le HL.out, Q2.out, GQ.out⟩⟩
          first | exact Q | ((repeat apply Exists.intro); exact ⟨Q, rfl⟩)
        case measure => have := HX.out; have := H40.out; simp [intOf]; omega
      have hb2 : (x.d.tmod 8 == 2) = false := by rw [beq_eq_false_iff_ne]; exact h2
      clear h2
      by_cases h6 : x.d.tmod 8 = 6
      · have hb6 : (x.d.tmod 8 == 6) = true := by rw [beq_iff_eq]; exact h6
        clear h6
        by_cases hid : x.id ∈ L
        · skip
          go_wp2_with fail
          refine (drop_yes lo q g n sh M L x.id WA PA.out.bv (by have := HL.out; have := HJ.out; omega) hid).mono ?_
          rintro e w4 ⟨rfl, p4, n4⟩
          have hlow : ∀ b, q b → lo ≤ b := fun b hb => (PA.out.bv.low b hb).1
          have P4 := Lib.hid p4
          have B4 : Hid (Below lo w w4) := BA.out.trans (PA.out.bv.nx n4)
          have L4 := Lib.hid (PA.out.ls.nx n4)
          have X4 := Lib.hid (XA.out.nx n4 hlow)
          have M4 := Lib.hid ((PA.out.ms.keep n4.fo.size fun b hb hp => n4.fo.block b hb (fun hr => by have := hlow b hr; omega)).imp fun b _ hb => hb.2)
          have E4 : Hid (¬ q bw) := fun h => by
            rcases n4.sub bw h with h1 | h1
            · exact PA.out.nq.1 h1
            · have := PA.out.blt; omega
          have G4 : Hid (¬ q rb ∧ w4.heap[rb]? = some (.cells #[.int .i64 0, .slice none 0 0, .bool false, .slice none 0 0] 31 (0, 0))) := ⟨fun h => by
            rcases n4.sub rb h with h1 | h1
            · exact GA.out.1 h1
            · have := (Array.getElem?_eq_some_iff.1 GA.out.2).1; omega, (n4.fo.block rb (Array.getElem?_eq_some_iff.1 GA.out.2).1 GA.out.1).trans GA.out.2⟩
          have Z4 := Lib.hid ((n4.fo.block bw PA.out.blt PA.out.nq.1).trans PA.out.bx)
          clear n4 hlow x0 x1 x2 y0 y1 y2 y3 yf0 yf1 yf2 yf3
          have x0 : w4.cell? ⟨a9, 0, none⟩ = some (.int .u8 x.d) := by rw [(row_cell X4.out.bx 0).1]; rfl
          have x1 : w4.cell? ⟨a9, 1, none⟩ = some (.int .i64 x.id) := by rw [(row_cell X4.out.bx 1).1]; rfl
          have x2 : w4.cell? ⟨a9, 2, none⟩ = some (.slice Ak nk ck) := by rw [(row_cell X4.out.bx 2).1]; rfl
          have y0 : w4.cell? ⟨bw, 0, none⟩ = some (.int .i64 n) := by rw [(row_cell Z4.out 0).1]; rfl
          have yf0 : w4.frozen? ⟨bw, 0, none⟩ = false := (row_cell Z4.out 0).2
          have y1 : w4.cell? ⟨bw, 1, none⟩ = some (.slice Am M.length cm) := by rw [(row_cell Z4.out 1).1]; rfl
          have yf1 : w4.frozen? ⟨bw, 1, none⟩ = false := (row_cell Z4.out 1).2
          have y2 : w4.cell? ⟨bw, 2, none⟩ = some (.bool sh) := by rw [(row_cell Z4.out 2).1]; rfl
          have yf2 : w4.frozen? ⟨bw, 2, none⟩ = false := (row_cell Z4.out 2).2
          have y3 : w4.cell? ⟨bw, 3, none⟩ = some (.slice Al L.length cl) := by rw [(row_cell Z4.out 3).1]; rfl
          have yf3 : w4.frozen? ⟨bw, 3, none⟩ = false := (row_cell Z4.out 3).2
          clear p4
          go_wp2_with fail
          refine (rdrop_yes n Am M.length cm Al L.length cl sh _ L x.id w4 L4.out (by have := HL.out; have := HJ.out; omega) hid).mono ?_
          rintro e w5 ⟨v', rfl, o5, b5⟩
          obtain ⟨A5, c5, rfl⟩ := o5.sl
          obtain ⟨K, hK⟩ : ∃ K, L.erase x.id = K := ⟨_, rfl⟩
          have HK : Hid (K.length ≤ L.length ∧ (L = [] → K = [])) := by
            rw [← hK]
            exact ⟨List.length_erase_le, fun h => by rw [h]; rfl⟩
          rw [hK] at o5 P4
          rw [hK]
          clear hK
          have L5 : Hid (Ow 3 w5 (fun b => lo ≤ b ∧ ¬ q b) (.slice A5 K.length c5) K.length (C K)) := o5.imp fun b _ hb => ⟨by have := P4.out.nil; omega, fun hq => by have := (P4.out.low b hq).2; omega⟩
          clear o5
          have P5 := Lib.hid (P4.out.below b5)
          have M5 := Lib.hid (M4.out.belowP b5)
          have Z5 := Lib.hid ((b5.block bw (Array.getElem?_eq_some_iff.1 Z4.out).1).trans Z4.out)
          have B5 : Hid (Below lo w w5) := B4.out.trans (b5.mono P4.out.nil)
          have G5 : Hid (¬ q rb ∧ w5.heap[rb]? = some (.cells #[.int .i64 0, .slice none 0 0, .bool false, .slice none 0 0] 31 (0, 0))) := ⟨G4.out.1, (b5.block rb (Array.getElem?_eq_some_iff.1 G4.out.2).1).trans G4.out.2⟩
          clear b5 P4 L4 X4 M4 Z4 B4 G4 x0 x1 x2 y0 y1 y2 y3 yf0 yf1 yf2 yf3
          have y0 : w5.cell? ⟨bw, 0, none⟩ = some (.int .i64 n) := by rw [(row_cell Z5.out 0).1]; rfl
          have yf0 : w5.frozen? ⟨bw, 0, none⟩ = false := (row_cell Z5.out 0).2
          have y1 : w5.cell? ⟨bw, 1, none⟩ = some (.slice Am M.length cm) := by rw [(row_cell Z5.out 1).1]; rfl
          have yf1 : w5.frozen? ⟨bw, 1, none⟩ = false := (row_cell Z5.out 1).2
          have y2 : w5.cell? ⟨bw, 2, none⟩ = some (.bool sh) := by rw [(row_cell Z5.out 2).1]; rfl
          have yf2 : w5.frozen? ⟨bw, 2, none⟩ = false := (row_cell Z5.out 2).2
          have y3 : w5.cell? ⟨bw, 3, none⟩ = some (.slice Al L.length cl) := by rw [(row_cell Z5.out 3).1]; rfl
          have yf3 : w5.frozen? ⟨bw, 3, none⟩ = false := (row_cell Z5.out 3).2
          have Q := PS.put P5.out Z5.out M5.out L5.out PA.out.nq (fun h => HK.out.2 (PA.out.nu h))
          have Q1 := Lib.hid Q.1
          have Q2 : Hid (Below lo w _) := B5.out.trans Q.2
          have GQ : Hid (¬ q rb ∧ (((((w5.setCell ⟨bw, 0, none⟩ (.int .i64 n)).setCell ⟨bw, 1, none⟩ (.slice Am M.length cm)).setCell ⟨bw, 2, none⟩ (.bool sh)).setCell ⟨bw, 3, none⟩ (.slice A5 K.length c5))).heap[rb]? = some (.cells #[.int .i64 0, .slice none 0 0, .bool false, .slice none 0 0] 31 (0, 0))) := ⟨G5.out.1, by
            rw [set_far _ _ HRB.out, set_far _ _ HRB.out, set_far _ _ HRB.out, set_far _ _ HRB.out]; exact G5.out.2⟩
          clear Q Z5 P5 L5 M5 B5 G5
          go_wp2_with fail
          go_roundw
          case rel =>
            have Q : MR lo bw g rb len n w (.int .i64 ((j : Int) + 1)) _ := ⟨⟨j + 1, q, sh, M, K, Am, cm, A5, c5, HX.out, by go_num, Q1.out, by have := HL.out; have := HK.out.1; omega, Q2.out, GQ.out⟩⟩
            first | exact Q | ((repeat apply Exists.intro); exact ⟨Q, rfl⟩)
          case measure => have := HX.out; have := H40.out; simp [intOf]; omega
        · skip
          go_wp2_with fail
          refine (drop_no lo q g n sh M L x.id WA PA.out.bv (by have := HL.out; have := HJ.out; omega) hid).mono ?_
          rintro e w4 ⟨rfl, hw⟩
          have hw := hw.symm
          subst hw
          go_wp2_with fail
          refine (rdrop_no n Am M.length cm Al L.length cl sh _ L x.id WA PA.out.ls.sq (by have := HL.out; have := HJ.out; omega) hid).mono ?_
          rintro e w5 ⟨rfl, b5⟩
          have P4 := Lib.hid PA.out.bv
          have L4 := Lib.hid PA.out.ls
          have X4 := XA
          have M4 := Lib.hid PA.out.ms
          have Z4 := Lib.hid PA.out.bx
          have B4 := BA
          have G4 := GA
          have P5 := Lib.hid (P4.out.below b5)
          have L5 := Lib.hid (L4.out.below b5)
          have M5 := Lib.hid (M4.out.belowP b5)
          have Z5 := Lib.hid ((b5.block bw (Array.getElem?_eq_some_iff.1 Z4.out).1).trans Z4.out)
          have B5 : Hid (Below lo w w5) := B4.out.trans (b5.mono P4.out.nil)
          have G5 : Hid (¬ q rb ∧ w5.heap[rb]? = some (.cells #[.int .i64 0, .slice none 0 0, .bool false, .slice none 0 0] 31 (0, 0))) := ⟨G4.out.1, (b5.block rb (Array.getElem?_eq_some_iff.1 G4.out.2).1).trans G4.out.2⟩
          clear b5 P4 L4 X4 M4 Z4 B4 G4 x0 x1 x2 y0 y1 y2 y3 yf0 yf1 yf2 yf3
          have y0 : w5.cell? ⟨bw, 0, none⟩ = some (.int .i64 n) := by rw [(row_cell Z5.out 0).1]; rfl
          have yf0 : w5.frozen? ⟨bw, 0, none⟩ = false := (row_cell Z5.out 0).2
          have y1 : w5.cell? ⟨bw, 1, none⟩ = some (.slice Am M.length cm) := by rw [(row_cell Z5.out 1).1]; rfl
          have yf1 : w5.frozen? ⟨bw, 1, none⟩ = false := (row_cell Z5.out 1).2
          have y2 : w5.cell? ⟨bw, 2, none⟩ = some (.bool sh) := by rw [(row_cell Z5.out 2).1]; rfl
          have yf2 : w5.frozen? ⟨bw, 2, none⟩ = false := (row_cell Z5.out 2).2
          have y3 : w5.cell? ⟨bw, 3, none⟩ = some (.slice Al L.length cl) := by rw [(row_cell Z5.out 3).1]; rfl
          have yf3 : w5.frozen? ⟨bw, 3, none⟩ = false := (row_cell Z5.out 3).2
          have Q := PS.put P5.out Z5.out M5.out L5.out PA.out.nq PA.out.nu
          have Q1 := Lib.hid Q.1
          have Q2 : Hid (Below lo w _) := B5.out.trans Q.2
          have GQ : Hid (¬ q rb ∧ (((((w5.setCell ⟨bw, 0, none⟩ (.int .i64 n)).setCell ⟨bw, 1, none⟩ (.slice Am M.length cm)).setCell ⟨bw, 2, none⟩ (.bool sh)).setCell ⟨bw, 3, none⟩ (.slice Al L.length cl))).heap[rb]? = some (.cells #[.int .i64 0, .slice none 0 0, .bool false, .slice none 0 0] 31 (0, 0))) := ⟨G5.out.1, by
            rw [set_far _ _ HRB.out, set_far _ _ HRB.out, set_far _ _ HRB.out, set_far _ _ HRB.out]; exact G5.out.2⟩
          clear Q Z5 P5 L5 M5 B5 G5
          go_wp2_with fail
          go_roundw
          case rel =>
            have Q : MR lo bw g rb len n w (.int .i64 ((j : Int) + 1)) _ := ⟨⟨j + 1, q, sh, M, L, Am, cm, Al, cl, HX.out, by go_num, Q1.out, Nat.le_succ_of_le HL.out, Q2.out, GQ.out⟩⟩
            first | exact Q | ((repeat apply Exists.intro); exact ⟨Q, rfl⟩)
          case measure => have := HX.out; have := H40.out; simp [intOf]; omega
      have hb6 : (x.d.tmod 8 == 6) = false := by rw [beq_eq_false_iff_ne]; exact h6
      clear h6
      cases sh with
      | true =>
        go_wp2_with fail
        refine (read_any lo q g n true M L x.id WA PA.out.bv (by have := HL.out; have := HJ.out; omega)).mono ?_
        rintro e w4 ⟨r, q4, rfl, o4, p4', n4⟩
        obtain ⟨A4, c4, rfl⟩ := o4.sl
        have p4 : BV lo w4 q4 g n true M L := by have := p4'; unfold readL at this; rw [if_pos rfl] at this; exact this
        clear p4' o4
        have hlow : ∀ b, q b → lo ≤ b := fun b hb => (PA.out.bv.low b hb).1
        have P4 := Lib.hid p4
        have B4 : Hid (Below lo w w4) := BA.out.trans (PA.out.bv.nx n4)
        have L4 := Lib.hid (PA.out.ls.nx n4)
        have X4 := Lib.hid (XA.out.nx n4 hlow)
        have M4 := Lib.hid ((PA.out.ms.keep n4.fo.size fun b hb hp => n4.fo.block b hb (fun hr => by have := hlow b hr; omega)).imp fun b _ hb => hb.2)
        have E4 : Hid (¬ q4 bw) := fun h => by
          rcases n4.sub bw h with h1 | h1
          · exact PA.out.nq.1 h1
          · have := PA.out.blt; omega
        have G4 : Hid (¬ q4 rb ∧ w4.heap[rb]? = some (.cells #[.int .i64 0, .slice none 0 0, .bool false, .slice none 0 0] 31 (0, 0))) := ⟨fun h => by
          rcases n4.sub rb h with h1 | h1
          · exact GA.out.1 h1
          · have := (Array.getElem?_eq_some_iff.1 GA.out.2).1; omega, (n4.fo.block rb (Array.getElem?_eq_some_iff.1 GA.out.2).1 GA.out.1).trans GA.out.2⟩
        have Z4 := Lib.hid ((n4.fo.block bw PA.out.blt PA.out.nq.1).trans PA.out.bx)
        clear n4 hlow x0 x1 x2 y0 y1 y2 y3 yf0 yf1 yf2 yf3
        have x0 : w4.cell? ⟨a9, 0, none⟩ = some (.int .u8 x.d) := by rw [(row_cell X4.out.bx 0).1]; rfl
        have x1 : w4.cell? ⟨a9, 1, none⟩ = some (.int .i64 x.id) := by rw [(row_cell X4.out.bx 1).1]; rfl
        have x2 : w4.cell? ⟨a9, 2, none⟩ = some (.slice Ak nk ck) := by rw [(row_cell X4.out.bx 2).1]; rfl
        have y0 : w4.cell? ⟨bw, 0, none⟩ = some (.int .i64 n) := by rw [(row_cell Z4.out 0).1]; rfl
        have yf0 : w4.frozen? ⟨bw, 0, none⟩ = false := (row_cell Z4.out 0).2
        have y1 : w4.cell? ⟨bw, 1, none⟩ = some (.slice Am M.length cm) := by rw [(row_cell Z4.out 1).1]; rfl
        have yf1 : w4.frozen? ⟨bw, 1, none⟩ = false := (row_cell Z4.out 1).2
        have y2 : w4.cell? ⟨bw, 2, none⟩ = some (.bool true) := by rw [(row_cell Z4.out 2).1]; rfl
        have yf2 : w4.frozen? ⟨bw, 2, none⟩ = false := (row_cell Z4.out 2).2
        have y3 : w4.cell? ⟨bw, 3, none⟩ = some (.slice Al L.length cl) := by rw [(row_cell Z4.out 3).1]; rfl
        have yf3 : w4.frozen? ⟨bw, 3, none⟩ = false := (row_cell Z4.out 3).2
        clear p4
        go_wp2_with fail
        refine (rread_shown n Am M.length cm Al L.length cl true x.id w4 rfl).mono ?_
        rintro e w5 ⟨rfl, b5⟩
        have P5 := Lib.hid (P4.out.below b5)
        have L5 := Lib.hid (L4.out.below b5)
        have M5 := Lib.hid (M4.out.belowP b5)
        have Z5 := Lib.hid ((b5.block bw (Array.getElem?_eq_some_iff.1 Z4.out).1).trans Z4.out)
        have B5 : Hid (Below lo w w5) := B4.out.trans (b5.mono P4.out.nil)
        have G5 : Hid (¬ q4 rb ∧ w5.heap[rb]? = some (.cells #[.int .i64 0, .slice none 0 0, .bool false, .slice none 0 0] 31 (0, 0))) := ⟨G4.out.1, (b5.block rb (Array.getElem?_eq_some_iff.1 G4.out.2).1).trans G4.out.2⟩
        clear b5 P4 L4 X4 M4 Z4 B4 G4 x0 x1 x2 y0 y1 y2 y3 yf0 yf1 yf2 yf3
        have y0 : w5.cell? ⟨bw, 0, none⟩ = some (.int .i64 n) := by rw [(row_cell Z5.out 0).1]; rfl
        have yf0 : w5.frozen? ⟨bw, 0, none⟩ = false := (row_cell Z5.out 0).2
        have y1 : w5.cell? ⟨bw, 1, none⟩ = some (.slice Am M.length cm) := by rw [(row_cell Z5.out 1).1]; rfl
        have yf1 : w5.frozen? ⟨bw, 1, none⟩ = false := (row_cell Z5.out 1).2
        have y2 : w5.cell? ⟨bw, 2, none⟩ = some (.bool true) := by rw [(row_cell Z5.out 2).1]; rfl
        have yf2 : w5.frozen? ⟨bw, 2, none⟩ = false := (row_cell Z5.out 2).2
        have y3 : w5.cell? ⟨bw, 3, none⟩ = some (.slice Al L.length cl) := by rw [(row_cell Z5.out 3).1]; rfl
        have yf3 : w5.frozen? ⟨bw, 3, none⟩ = false := (row_cell Z5.out 3).2
        have Q := PS.put P5.out Z5.out M5.out L5.out ⟨E4.out, PA.out.nq.2⟩ (PA.out.nu)
        have Q1 := Lib.hid Q.1
        have Q2 : Hid (Below lo w _) := B5.out.trans Q.2
        have GQ : Hid (¬ q4 rb ∧ (((((w5.setCell ⟨bw, 0, none⟩ (.int .i64 n)).setCell ⟨bw, 1, none⟩ (.slice Am M.length cm)).setCell ⟨bw, 2, none⟩ (.bool true)).setCell ⟨bw, 3, none⟩ (.slice Al L.length cl))).heap[rb]? = some (.cells #[.int .i64 0, .slice none 0 0, .bool false, .slice none 0 0] 31 (0, 0))) := ⟨G5.out.1, by
          rw [set_far _ _ HRB.out, set_far _ _ HRB.out, set_far _ _ HRB.out, set_far _ _ HRB.out]; exact G5.out.2⟩
        clear Q Z5 P5 L5 M5 B5 G5
        go_wp2_with fail
        go_roundw
        case rel =>
          have Q : MR lo bw g rb len n w (.int .i64 ((j : Int) + 1)) _ := ⟨⟨j + 1, q4, true, M, L, Am, cm, Al, cl, HX.out, by go_num, Q1.out, Nat.le_succ_of_le HL.out, Q2.out, GQ.out⟩⟩
          first | exact Q | ((repeat apply Exists.intro); exact ⟨Q, rfl⟩)
        case measure => have := HX.out; have := H40.out; simp [intOf]; omega
      | false =>
        by_cases hid : x.id ∈ L
        · skip
          go_wp2_with fail
          refine (read_any lo q g n false M L x.id WA PA.out.bv (by have := HL.out; have := HJ.out; omega)).mono ?_
          rintro e w4 ⟨r, q4, rfl, o4, p4', n4⟩
          obtain ⟨A4, c4, rfl⟩ := o4.sl
          have p4 : BV lo w4 q4 g n false M L := by have := p4'; unfold readL at this; rw [if_neg (by simp), if_pos hid] at this; exact this
          clear p4' o4
          have hlow : ∀ b, q b → lo ≤ b := fun b hb => (PA.out.bv.low b hb).1
          have P4 := Lib.hid p4
          have B4 : Hid (Below lo w w4) := BA.out.trans (PA.out.bv.nx n4)
          have L4 := Lib.hid (PA.out.ls.nx n4)
          have X4 := Lib.hid (XA.out.nx n4 hlow)
          have M4 := Lib.hid ((PA.out.ms.keep n4.fo.size fun b hb hp => n4.fo.block b hb (fun hr => by have := hlow b hr; omega)).imp fun b _ hb => hb.2)
          have E4 : Hid (¬ q4 bw) := fun h => by
            rcases n4.sub bw h with h1 | h1
            · exact PA.out.nq.1 h1
            · have := PA.out.blt; omega
          have G4 : Hid (¬ q4 rb ∧ w4.heap[rb]? = some (.cells #[.int .i64 0, .slice none 0 0, .bool false, .slice none 0 0] 31 (0, 0))) := ⟨fun h => by
            rcases n4.sub rb h with h1 | h1
            · exact GA.out.1 h1
            · have := (Array.getElem?_eq_some_iff.1 GA.out.2).1; omega, (n4.fo.block rb (Array.getElem?_eq_some_iff.1 GA.out.2).1 GA.out.1).trans GA.out.2⟩
          have Z4 := Lib.hid ((n4.fo.block bw PA.out.blt PA.out.nq.1).trans PA.out.bx)
          clear n4 hlow x0 x1 x2 y0 y1 y2 y3 yf0 yf1 yf2 yf3
          have x0 : w4.cell? ⟨a9, 0, none⟩ = some (.int .u8 x.d) := by rw [(row_cell X4.out.bx 0).1]; rfl
          have x1 : w4.cell? ⟨a9, 1, none⟩ = some (.int .i64 x.id) := by rw [(row_cell X4.out.bx 1).1]; rfl
          have x2 : w4.cell? ⟨a9, 2, none⟩ = some (.slice Ak nk ck) := by rw [(row_cell X4.out.bx 2).1]; rfl
          have y0 : w4.cell? ⟨bw, 0, none⟩ = some (.int .i64 n) := by rw [(row_cell Z4.out 0).1]; rfl
          have yf0 : w4.frozen? ⟨bw, 0, none⟩ = false := (row_cell Z4.out 0).2
          have y1 : w4.cell? ⟨bw, 1, none⟩ = some (.slice Am M.length cm) := by rw [(row_cell Z4.out 1).1]; rfl
          have yf1 : w4.frozen? ⟨bw, 1, none⟩ = false := (row_cell Z4.out 1).2
          have y2 : w4.cell? ⟨bw, 2, none⟩ = some (.bool false) := by rw [(row_cell Z4.out 2).1]; rfl
          have yf2 : w4.frozen? ⟨bw, 2, none⟩ = false := (row_cell Z4.out 2).2
          have y3 : w4.cell? ⟨bw, 3, none⟩ = some (.slice Al L.length cl) := by rw [(row_cell Z4.out 3).1]; rfl
          have yf3 : w4.frozen? ⟨bw, 3, none⟩ = false := (row_cell Z4.out 3).2
          clear p4
          go_wp2_with fail
          refine (rread_in n Am M.length cm Al L.length cl false _ L x.id w4 L4.out.sq (by have := HL.out; have := HJ.out; omega) hid rfl).mono ?_
          rintro e w5 ⟨rfl, b5⟩
          have P5 := Lib.hid (P4.out.below b5)
          have L5 := Lib.hid (L4.out.below b5)
          have M5 := Lib.hid (M4.out.belowP b5)
          have Z5 := Lib.hid ((b5.block bw (Array.getElem?_eq_some_iff.1 Z4.out).1).trans Z4.out)
          have B5 : Hid (Below lo w w5) := B4.out.trans (b5.mono P4.out.nil)
          have G5 : Hid (¬ q4 rb ∧ w5.heap[rb]? = some (.cells #[.int .i64 0, .slice none 0 0, .bool false, .slice none 0 0] 31 (0, 0))) := ⟨G4.out.1, (b5.block rb (Array.getElem?_eq_some_iff.1 G4.out.2).1).trans G4.out.2⟩
          clear b5 P4 L4 X4 M4 Z4 B4 G4 x0 x1 x2 y0 y1 y2 y3 yf0 yf1 yf2 yf3
          have y0 : w5.cell? ⟨bw, 0, none⟩ = some (.int .i64 n) := by rw [(row_cell Z5.out 0).1]; rfl
          have yf0 : w5.frozen? ⟨bw, 0, none⟩ = false := (row_cell Z5.out 0).2
          have y1 : w5.cell? ⟨bw, 1, none⟩ = some (.slice Am M.length cm) := by rw [(row_cell Z5.out 1).1]; rfl
          have yf1 : w5.frozen? ⟨bw, 1, none⟩ = false := (row_cell Z5.out 1).2
          have y2 : w5.cell? ⟨bw, 2, none⟩ = some (.bool false) := by rw [(row_cell Z5.out 2).1]; rfl
          have yf2 : w5.frozen? ⟨bw, 2, none⟩ = false := (row_cell Z5.out 2).2
          have y3 : w5.cell? ⟨bw, 3, none⟩ = some (.slice Al L.length cl) := by rw [(row_cell Z5.out 3).1]; rfl
          have yf3 : w5.frozen? ⟨bw, 3, none⟩ = false := (row_cell Z5.out 3).2
          have Q := PS.put P5.out Z5.out M5.out L5.out ⟨E4.out, PA.out.nq.2⟩ ((fun h => by cases h))
          have Q1 := Lib.hid Q.1
          have Q2 : Hid (Below lo w _) := B5.out.trans Q.2
          have GQ : Hid (¬ q4 rb ∧ (((((w5.setCell ⟨bw, 0, none⟩ (.int .i64 n)).setCell ⟨bw, 1, none⟩ (.slice Am M.length cm)).setCell ⟨bw, 2, none⟩ (.bool false)).setCell ⟨bw, 3, none⟩ (.slice Al L.length cl))).heap[rb]? = some (.cells #[.int .i64 0, .slice none 0 0, .bool false, .slice none 0 0] 31 (0, 0))) := ⟨G5.out.1, by
            rw [set_far _ _ HRB.out, set_far _ _ HRB.out, set_far _ _ HRB.out, set_far _ _ HRB.out]; exact G5.out.2⟩
          clear Q Z5 P5 L5 M5 B5 G5
          go_wp2_with fail
          go_roundw
          case rel =>
            have Q : MR lo bw g rb len n w (.int .i64 ((j : Int) + 1)) _ := ⟨⟨j + 1, q4, false, M, L, Am, cm, Al, cl, HX.out, by go_num, Q1.out, Nat.le_succ_of_le HL.out, Q2.out, GQ.out⟩⟩
            first | exact Q | ((repeat apply Exists.intro); exact ⟨Q, rfl⟩)
          case measure => have := HX.out; have := H40.out; simp [intOf]; omega
        · skip
          go_wp2_with fail
          refine (read_any lo q g n false M L x.id WA PA.out.bv (by have := HL.out; have := HJ.out; omega)).mono ?_
          rintro e w4 ⟨r, q4, rfl, o4, p4', n4⟩
          obtain ⟨A4, c4, rfl⟩ := o4.sl
          have p4 : BV lo w4 q4 g n false M (L ++ [x.id]) := by have := p4'; unfold readL at this; rw [if_neg (by simp), if_neg hid] at this; exact this
          clear p4' o4
          have hlow : ∀ b, q b → lo ≤ b := fun b hb => (PA.out.bv.low b hb).1
          have P4 := Lib.hid p4
          have B4 : Hid (Below lo w w4) := BA.out.trans (PA.out.bv.nx n4)
          have L4 := Lib.hid (PA.out.ls.nx n4)
          have X4 := Lib.hid (XA.out.nx n4 hlow)
          have M4 := Lib.hid ((PA.out.ms.keep n4.fo.size fun b hb hp => n4.fo.block b hb (fun hr => by have := hlow b hr; omega)).imp fun b _ hb => hb.2)
          have E4 : Hid (¬ q4 bw) := fun h => by
            rcases n4.sub bw h with h1 | h1
            · exact PA.out.nq.1 h1
            · have := PA.out.blt; omega
          have G4 : Hid (¬ q4 rb ∧ w4.heap[rb]? = some (.cells #[.int .i64 0, .slice none 0 0, .bool false, .slice none 0 0] 31 (0, 0))) := ⟨fun h => by
            rcases n4.sub rb h with h1 | h1
            · exact GA.out.1 h1
            · have := (Array.getElem?_eq_some_iff.1 GA.out.2).1; omega, (n4.fo.block rb (Array.getElem?_eq_some_iff.1 GA.out.2).1 GA.out.1).trans GA.out.2⟩
          have Z4 := Lib.hid ((n4.fo.block bw PA.out.blt PA.out.nq.1).trans PA.out.bx)
          clear n4 hlow x0 x1 x2 y0 y1 y2 y3 yf0 yf1 yf2 yf3
          have x0 : w4.cell? ⟨a9, 0, none⟩ = some (.int .u8 x.d) := by rw [(row_cell X4.out.bx 0).1]; rfl
          have x1 : w4.cell? ⟨a9, 1, none⟩ = some (.int .i64 x.id) := by rw [(row_cell X4.out.bx 1).1]; rfl
          have x2 : w4.cell? ⟨a9, 2, none⟩ = some (.slice Ak nk ck) := by rw [(row_cell X4.out.bx 2).1]; rfl
          have y0 : w4.cell? ⟨bw, 0, none⟩ = some (.int .i64 n) := by rw [(row_cell Z4.out 0).1]; rfl
          have yf0 : w4.frozen? ⟨bw, 0, none⟩ = false := (row_cell Z4.out 0).2
          have y1 : w4.cell? ⟨bw, 1, none⟩ = some (.slice Am M.length cm) := by rw [(row_cell Z4.out 1).1]; rfl
          have yf1 : w4.frozen? ⟨bw, 1, none⟩ = false := (row_cell Z4.out 1).2
          have y2 : w4.cell? ⟨bw, 2, none⟩ = some (.bool false) := by rw [(row_cell Z4.out 2).1]; rfl
          have yf2 : w4.frozen? ⟨bw, 2, none⟩ = false := (row_cell Z4.out 2).2
          have y3 : w4.cell? ⟨bw, 3, none⟩ = some (.slice Al L.length cl) := by rw [(row_cell Z4.out 3).1]; rfl
          have yf3 : w4.frozen? ⟨bw, 3, none⟩ = false := (row_cell Z4.out 3).2
          clear p4
          go_wp2_with fail
          refine (rread_new n Am M.length cm Al L.length cl false _ L x.id w4 L4.out.sq (by have := HL.out; have := HJ.out; omega) hid rfl).mono ?_
          rintro e w5 ⟨v', rfl, o5, b5⟩
          obtain ⟨A5, c5, rfl⟩ := o5.sl
          obtain ⟨K, hK⟩ : ∃ K, L ++ [x.id] = K := ⟨_, rfl⟩
          have HK : Hid (K.length = L.length + 1) := by rw [← hK]; simp [Hid]
          rw [hK] at o5 P4
          rw [hK]
          clear hK
          have L5 : Hid (Ow 3 w5 (fun b => lo ≤ b ∧ ¬ q4 b) (.slice A5 K.length c5) K.length (C K)) := o5.imp fun b _ hb => ⟨by have := P4.out.nil; omega, fun hq => by have := (P4.out.low b hq).2; omega⟩
          clear o5
          have P5 := Lib.hid (P4.out.below b5)
          have M5 := Lib.hid (M4.out.belowP b5)
          have Z5 := Lib.hid ((b5.block bw (Array.getElem?_eq_some_iff.1 Z4.out).1).trans Z4.out)
          have B5 : Hid (Below lo w w5) := B4.out.trans (b5.mono P4.out.nil)
          have G5 : Hid (¬ q4 rb ∧ w5.heap[rb]? = some (.cells #[.int .i64 0, .slice none 0 0, .bool false, .slice none 0 0] 31 (0, 0))) := ⟨G4.out.1, (b5.block rb (Array.getElem?_eq_some_iff.1 G4.out.2).1).trans G4.out.2⟩
          clear b5 P4 L4 X4 M4 Z4 B4 G4 x0 x1 x2 y0 y1 y2 y3 yf0 yf1 yf2 yf3
          have y0 : w5.cell? ⟨bw, 0, none⟩ = some (.int .i64 n) := by rw [(row_cell Z5.out 0).1]; rfl
          have yf0 : w5.frozen? ⟨bw, 0, none⟩ = false := (row_cell Z5.out 0).2
          have y1 : w5.cell? ⟨bw, 1, none⟩ = some (.slice Am M.length cm) := by rw [(row_cell Z5.out 1).1]; rfl
          have yf1 : w5.frozen? ⟨bw, 1, none⟩ = false := (row_cell Z5.out 1).2
          have y2 : w5.cell? ⟨bw, 2, none⟩ = some (.bool false) := by rw [(row_cell Z5.out 2).1]; rfl
          have yf2 : w5.frozen? ⟨bw, 2, none⟩ = false := (row_cell Z5.out 2).2
          have y3 : w5.cell? ⟨bw, 3, none⟩ = some (.slice Al L.length cl) := by rw [(row_cell Z5.out 3).1]; rfl
          have yf3 : w5.frozen? ⟨bw, 3, none⟩ = false := (row_cell Z5.out 3).2
          have Q := PS.put P5.out Z5.out M5.out L5.out ⟨E4.out, PA.out.nq.2⟩ ((fun h => by cases h))
          have Q1 := Lib.hid Q.1
          have Q2 : Hid (Below lo w _) := B5.out.trans Q.2
          have GQ : Hid (¬ q4 rb ∧ (((((w5.setCell ⟨bw, 0, none⟩ (.int .i64 n)).setCell ⟨bw, 1, none⟩ (.slice Am M.length cm)).setCell ⟨bw, 2, none⟩ (.bool false)).setCell ⟨bw, 3, none⟩ (.slice A5 K.length c5))).heap[rb]? = some (.cells #[.int .i64 0, .slice none 0 0, .bool false, .slice none 0 0] 31 (0, 0))) := ⟨G5.out.1, by
            rw [set_far _ _ HRB.out, set_far _ _ HRB.out, set_far _ _ HRB.out, set_far _ _ HRB.out]; exact G5.out.2⟩
          clear Q Z5 P5 L5 M5 B5 G5
          go_wp2_with fail
          go_roundw
          case rel =>
            have Q : MR lo bw g rb len n w (.int .i64 ((j : Int) + 1)) _ := ⟨⟨j + 1, q4, false, M, K, Am, cm, A5, c5, HX.out, by go_num, Q1.out, by have := HL.out; have := HK.out; omega, Q2.out, GQ.out⟩⟩
            first | exact Q | ((repeat apply Exists.intro); exact ⟨Q, rfl⟩)
          case measure => have := HX.out; have := H40.out; simp [intOf]; omega
    · have hjI : ¬ (j : Int) < (len : Int) := by omega
      have hjle : j ≤ len := hj
      clear hlt
      have hR9 : wr.heap[lo]? = some (.cells #[.int .i64 0, .slice none 0 0, .bool false, .slice none 0 0] 31 (0, 0)) := by have := HGR.out.2; rw [S1.out.2] at this; exact this
      have hne : ¬ lo = bw := by have := HRB.out; have := S1.out; omega
      have r0 : wr.cell? ⟨lo, 0, none⟩ = some (.int .i64 0) := by rw [(row_cell hR9 0).1]; rfl
      have r1 : wr.cell? ⟨lo, 1, none⟩ = some (.slice none 0 0) := by rw [(row_cell hR9 1).1]; rfl
      have r2 : wr.cell? ⟨lo, 2, none⟩ = some (.bool false) := by rw [(row_cell hR9 2).1]; rfl
      have r3 : wr.cell? ⟨lo, 3, none⟩ = some (.slice none 0 0) := by rw [(row_cell hR9 3).1]; rfl
      have rf0 : wr.frozen? ⟨lo, 0, none⟩ = false := (row_cell hR9 0).2
      have rf1 : wr.frozen? ⟨lo, 1, none⟩ = false := (row_cell hR9 1).2
      have rf2 : wr.frozen? ⟨lo, 2, none⟩ = false := (row_cell hR9 2).2
      have rf3 : wr.frozen? ⟨lo, 3, none⟩ = false := (row_cell hR9 3).2
      have y0 : wr.cell? ⟨bw, 0, none⟩ = some (.int .i64 n) := by rw [(row_cell HP.out.bx 0).1]; rfl
      have yf0 : wr.frozen? ⟨bw, 0, none⟩ = false := (row_cell HP.out.bx 0).2
      have y1 : wr.cell? ⟨bw, 1, none⟩ = some (.slice Am M.length cm) := by rw [(row_cell HP.out.bx 1).1]; rfl
      have yf1 : wr.frozen? ⟨bw, 1, none⟩ = false := (row_cell HP.out.bx 1).2
      have y2 : wr.cell? ⟨bw, 2, none⟩ = some (.bool sh) := by rw [(row_cell HP.out.bx 2).1]; rfl
      have yf2 : wr.frozen? ⟨bw, 2, none⟩ = false := (row_cell HP.out.bx 2).2
      have y3 : wr.cell? ⟨bw, 3, none⟩ = some (.slice Al L.length cl) := by rw [(row_cell HP.out.bx 3).1]; rfl
      have yf3 : wr.frozen? ⟨bw, 3, none⟩ = false := (row_cell HP.out.bx 3).2
      go_wp2_with fail
      refine wp_region_held_drew (S := (fun w' => w'.cell? ⟨bw, 0, none⟩ = some (.int .i64 n) ∧ w'.cell? ⟨bw, 1, none⟩ = some (.slice Am M.length cm) ∧ w'.cell? ⟨bw, 2, none⟩ = some (.bool sh) ∧ w'.cell? ⟨bw, 3, none⟩ = some (.slice Al L.length cl))) (by kernel_rfl) ?_ (fun hHeld => ?_)
      · exact ⟨y0, y1, y2, y3⟩
      refine takeD (i := 0) (d := some 73) (v := ?_) _ rfl rfl (by kernel_rfl) (by kernel_rfl) (by kernel_rfl) (fun _ _ _ h => h) (by rfl) ?_ (by assumption) ?_
      rotate_left
      · (intro w hSw; (try dsimp only at hSw); go_simp) <;> with_reducible rfl
      try simp only [Act.put, List.setIfInBounds_toArray, List.set_cons_zero, List.set_cons_succ]
      refine takeD (i := 1) (d := some 74) (v := ?_) _ rfl rfl (by kernel_rfl) (by kernel_rfl) (by kernel_rfl) (fun _ _ _ h => h) (by rfl) ?_ (by assumption) ?_
      rotate_left
      · (intro w hSw; (try dsimp only at hSw); go_simp) <;> with_reducible rfl
      try simp only [Act.put, List.setIfInBounds_toArray, List.set_cons_zero, List.set_cons_succ]
      refine takeD (i := 2) (d := some 3) (v := ?_) _ rfl rfl (by kernel_rfl) (by kernel_rfl) (by kernel_rfl) (fun _ _ _ h => h) (by rfl) ?_ (by assumption) ?_
      rotate_left
      · (intro w hSw; (try dsimp only at hSw); go_simp) <;> with_reducible rfl
      try simp only [Act.put, List.setIfInBounds_toArray, List.set_cons_zero, List.set_cons_succ]
      refine wpAnyH_ready (rs := [3]) (by kernel_rfl) (by simp) ?_
      refine AllReadyH.cons rfl (fun K hK => ?_) AllReadyH.nil
      try go_simp
      refine hK.out _ _ ?_ (fun hHeld => ?_)
      · exact ⟨(World.cell?_setCell_other _ _ _ _ (by intro e; injection e with e; omega)).trans ((World.cell?_setCell_other _ _ _ _ (by intro e; injection e with e; omega)).trans ((World.cell?_setCell_other _ _ _ _ (by intro e; injection e with e; omega)).trans ((World.cell?_setCell_other _ _ _ _ (by intro e; injection e with e; omega)).trans y0))), (World.cell?_setCell_other _ _ _ _ (by intro e; injection e with e; omega)).trans ((World.cell?_setCell_other _ _ _ _ (by intro e; injection e with e; omega)).trans ((World.cell?_setCell_other _ _ _ _ (by intro e; injection e with e; omega)).trans ((World.cell?_setCell_other _ _ _ _ (by intro e; injection e with e; omega)).trans y1))), (World.cell?_setCell_other _ _ _ _ (by intro e; injection e with e; omega)).trans ((World.cell?_setCell_other _ _ _ _ (by intro e; injection e with e; omega)).trans ((World.cell?_setCell_other _ _ _ _ (by intro e; injection e with e; omega)).trans ((World.cell?_setCell_other _ _ _ _ (by intro e; injection e with e; omega)).trans y2))), (World.cell?_setCell_other _ _ _ _ (by intro e; injection e with e; omega)).trans ((World.cell?_setCell_other _ _ _ _ (by intro e; injection e with e; omega)).trans ((World.cell?_setCell_other _ _ _ _ (by intro e; injection e with e; omega)).trans ((World.cell?_setCell_other _ _ _ _ (by intro e; injection e with e; omega)).trans y3)))⟩
      clear hK K
      try simp only [Act.put, List.getElem_toArray, List.getElem_cons_succ, List.getElem_cons_zero, List.setIfInBounds_toArray, List.set_cons_zero, List.set_cons_succ]
      refine wpAnyH_done (by kernel_rfl) ?_ _
      clear hHeld
      go_wp2_with fail
      refine bodyPost_ret (results_tmp_cell rfl _ _ lo _ _ rfl (set_four (w := wr.drew) hR9 _ _ _ _) Try.underlying31 rfl (by kernel_rfl)) rfl ?_
      have hf : Fo (fun b => b = lo) wr.drew (((((wr.drew.setCell ⟨lo, 0, none⟩ (.int .i64 n)).setCell ⟨lo, 1, none⟩ (.slice Am M.length cm)).setCell ⟨lo, 2, none⟩ (.bool sh)).setCell ⟨lo, 3, none⟩ (.slice Al L.length cl))) := ((((Fo.refl (fun b => b = lo) wr.drew).setCell (.inl rfl) 0 _).setCell (.inl rfl) 1 _).setCell (.inl rfl) 2 _).setCell (.inl rfl) 3 _
      have hd : Below wr.heap.size wr wr.drew := (Below.refl _ _).drew
      have hbd : Below lo w wr.drew := HB.out.drew
      have hnq : ¬ q lo := by have := HGR.out.1; rw [S1.out.2] at this; exact this
      have p1 := (HP.out.bv.below hd).fo hf (fun b hb h => hnq (by rw [← h]; exact hb))
      have p2 := ((HP.out.ms.belowP hd).keep hf.size fun b hb hp => hf.block b hb (fun e => by omega)).imp fun b _ hb => hb.2
      have hlo4 : wr.drew.heap[lo]? = some (.cells #[.int .i64 0, .slice none 0 0, .bool false, .slice none 0 0] 31 (0, 0)) := hR9
      have p3 := (((HP.out.ls.below hd).not hlo4 ne_ir).fo hf (fun b hb => hb.2)).imp fun b _ hb => hb.1
      exact ⟨q, g, sh, M, L, Am, cm, Al, cl, rfl, p1, p2, p3, by have := HL.out; have := H40.out; omega, hf.below (fun b hb => by omega) (by have := hbd.size; have := HLO.out; omega) |> hbd.trans⟩
end Go.Proofs.Ytfmcmhgpgkeplaa.B
