/-
  The walk of ReadyApart. Each statement bears its own conditions.
-/
import Derived.Test.YtbkjcjkbicaibaaApartM
import Derived.Deep.Slices
import Derived.ChangeSlices
import Derived.ChangeArms
import Derived.ProofKit
import Derived.OpenShut
import Derived.ChangeOld
namespace Go.Proofs.Ytbkjcjkbicaibaa
open Go.RowKit Go.ChangeShapes Go.WideShapes Go.ChangeAt
set_option linter.unusedVariables false
set_option linter.unusedSimpArgs false
theorem three_of {H : Type} {enc : TypeId × Value → H} {P : Program} {W : World} {base : Nat} {held : Bool} {t e : TypeId} {F0 F1 F2 : Field} {k0 k1 k2 : IntKind} {fuel : Nat} {a : Option Addr} {len cap : Nat} {x : DataW H × List MemPlace}
    (ht : P.underlying t = some (.slice e)) (he : P.underlying e = some (.struct #[F0, F1, F2])) (hC : P.cellsOf e = 3) (ho : F0.offset = 0 ∧ F1.offset = 1 ∧ F2.offset = 2) (hc : P.cellsOf F0.type = 1 ∧ P.cellsOf F1.type = 1 ∧ P.cellsOf F2.type = 1)
    (h0 : P.underlying F0.type = some (.int k0)) (h1 : P.underlying F1.type = some (.int k1)) (h2 : P.underlying F2.type = some (.int k2)) (h : DataW.trod enc P W base (fun _ => true) held fuel t [.slice a len cap] = some x) :
    len ≤ maxLen ∧ (0 < len → ∃ (b off : Nat) (K M T : Nat → Int), a = some ⟨b, off, none⟩ ∧ ∀ r, r < len → W.cell? ⟨b, off + r * 3, none⟩ = some (.int k0 (K r)) ∧ W.cell? ⟨b, off + r * 3 + 1, none⟩ = some (.int k1 (M r)) ∧ W.cell? ⟨b, off + r * 3 + 2, none⟩ = some (.int k2 (T r)) ∧
      (Lit.int k0 (K r)).wf = true ∧ (Lit.int k1 (M r)).wf = true ∧ (Lit.int k2 (T r)).wf = true) := by
  rcases Go.Deep.open_slice ht h with ⟨hcs, _⟩ | ⟨y, l, c, m, n, D, Pl, hcs, _, hl, hm, hmm, _, hi⟩
  · injection hcs with hcs
    injection hcs with _ h3 _
    exact ⟨by rw [h3]; unfold maxLen; omega, fun hp => by omega⟩
  · injection hcs with hcs
    injection hcs with e1 e2 e3
    subst e1 e2 e3
    simp only [if_true] at hmm
    subst hmm
    refine ⟨Nat.le_trans hl hm, fun hp => ?_⟩
    have each : ∀ i, i < len → ∃ q : Int × Int × Int, W.cell? (y.add (i * 3)) = some (.int k0 q.1) ∧ W.cell? ((y.add (i * 3)).add 1) = some (.int k1 q.2.1) ∧ W.cell? ((y.add (i * 3)).add 2) = some (.int k2 q.2.2) ∧ (Lit.int k0 q.1).wf = true ∧ (Lit.int k1 q.2.1).wf = true ∧ (Lit.int k2 q.2.2).wf = true := by
      intro i hil
      obtain ⟨cs, hcc, ht'⟩ := hi i (by omega)
      rw [hC] at hcc
      obtain ⟨_, hlen, hat⟩ := World.cells?_some hcc
      obtain ⟨ys, n', _, _, _, hyl, hf⟩ := DataW.trod_struct he ht'
      match cs, hlen with
      | [u0, u1, u2], _ =>
        have g0 := hf 0 F0 rfl
        have g1 := hf 1 F1 rfl
        have g2 := hf 2 F2 rfl
        rw [ho.1, hc.1] at g0
        rw [ho.2.1, hc.2.1] at g1
        rw [ho.2.2, hc.2.2] at g2
        match ys, hyl with
        | [w0, w1, w2], _ =>
          obtain ⟨z0, d0, _, f0⟩ := DataW.trod_int h0 g0
          obtain ⟨z1, d1, _, f1⟩ := DataW.trod_int h1 g1
          obtain ⟨z2, d2, _, f2⟩ := DataW.trod_int h2 g2
          have c0 := hat 0 (by omega)
          have c1 := hat 1 (by omega)
          have c2 := hat 2 (by omega)
          simp at d0 d1 d2 c0 c1 c2
          subst d0 d1 d2
          exact ⟨(z0, z1, z2), by rw [show (y.add (i * 3)).add 0 = y.add (i * 3) by unfold Addr.add; simp] at c0; exact c0, c1, c2, f0, f1, f2⟩
    obtain ⟨q, hq⟩ := Go.Deep.choose_lt each
    obtain ⟨b, off, spot⟩ := y
    have e0 := (hq 0 hp).1
    have hs : spot = none := by simpa [Addr.add] using World.cell?_spot e0
    subst hs
    refine ⟨b, off, fun i => (q i).1, fun i => (q i).2.1, fun i => (q i).2.2, rfl, fun r hr => ?_⟩
    have := hq r hr
    simpa [Addr.add_lit] using this
/-- A slice of acts. -/
def ActRow (w : World) (a : Option Addr) (len : Nat) : Prop := 0 < len → ∃ (b off : Nat) (K M T : Nat → Int), a = some ⟨b, off, none⟩ ∧
  ∀ r, r < len → w.cell? ⟨b, off + r * 3, none⟩ = some (.int .i64 (K r)) ∧ w.cell? ⟨b, off + r * 3 + 1, none⟩ = some (.int .i64 (M r)) ∧ w.cell? ⟨b, off + r * 3 + 2, none⟩ = some (.int .i64 (T r))
theorem actRow_of {H : Type} {enc : TypeId × Value → H} {W : World} {base : Nat} {held : Bool} {fuel : Nat} {a : Option Addr} {len cap : Nat} {x : DataW H × List MemPlace} (h : DataW.trod enc Try.prog W base (fun _ => true) held fuel 22 [.slice a len cap] = some x) : ActRow W a len ∧ len ≤ maxLen := by
  obtain ⟨h1, h2⟩ := three_of Try.underlying22 Try.underlying29 (by kernel_rfl) ⟨rfl, rfl, rfl⟩ ⟨by kernel_rfl, by kernel_rfl, by kernel_rfl⟩ Try.underlying3 Try.underlying3 Try.underlying3 h
  refine ⟨fun hp => ?_, h1⟩
  obtain ⟨b, off, K, M, T, rfl, hc⟩ := h2 hp
  exact ⟨b, off, K, M, T, rfl, fun r hr => by
    obtain ⟨a0, a1, a2, _, _, _⟩ := hc r hr
    exact ⟨a0, a1, a2⟩⟩
theorem wrap_u64' (x : Int) : IntKind.u64.wrap x = x % 18446744073709551616 := by simp [IntKind.wrap, IntKind.bits, IntKind.signed]
theorem low6 (x : Int) : ∃ u p : Nat, IntKind.u64.wrap x = (u : Int) ∧ (u : Int) % 64 = (p : Int) ∧ ((u : Int).tmod 64) = (p : Int) ∧ p < 64 ∧ x % 64 = (p : Int) ∧ IntKind.i64.wrap (p : Int) = (p : Int) := by
  refine ⟨(x % 18446744073709551616).toNat, (x % 64).toNat, ?_, ?_, ?_, ?_, ?_, ?_⟩
  · rw [wrap_u64']; omega
  · omega
  · rw [Int.tmod_eq_emod_of_nonneg (by omega)]; omega
  · omega
  · omega
  · rw [IntKind.wrap_i64]; omega
theorem low3 (x : Int) : ∃ u κ : Nat, IntKind.u64.wrap x = (u : Int) ∧ (u : Int) % 3 = (κ : Int) ∧ ((u : Int).tmod 3) = (κ : Int) ∧ (κ = 0 ∨ κ = 1 ∨ κ = 2) := by
  refine ⟨(x % 18446744073709551616).toNat, (x % 18446744073709551616).toNat % 3, ?_, ?_, ?_, ?_⟩
  · rw [wrap_u64']; omega
  · omega
  · rw [Int.tmod_eq_emod_of_nonneg (by omega)]; omega
  · omega
theorem Ap.symm {g g' : Nat} {rb rb' : Nat → Nat} (h : Ap g' rb' g rb) : Ap g rb g' rb' :=
  ⟨fun e => h.1 e.symm, fun q hq e => h.2.2.1 q hq e.symm, fun p hp e => h.2.1 p hp e.symm, fun p q hp hq e => h.2.2.2 q p hq hp e.symm⟩
/-- Two lists apart. -/
structure Two (w0 : World) (gx gy : Nat) (rx ry : Nat → Nat) (X Y : Nat → List Int) (w : World) : Prop where
  lx : LF w gx rx X
  ly : LF w gy ry Y
  ox : Own w0.heap.size gx rx
  oy : Own w0.heap.size gy ry
  ap : Ap gy ry gx rx
  bel : Below w0.heap.size w0 w
/-- The act's own block. -/
structure Ab (ab : Nat) (K M T : Int) (gx gy : Nat) (rx ry : Nat → Nat) (w : World) : Prop where
  d0 : w.cell? ⟨ab, 0, none⟩ = some (.int .i64 K)
  d1 : w.cell? ⟨ab, 1, none⟩ = some (.int .i64 M)
  d2 : w.cell? ⟨ab, 2, none⟩ = some (.int .i64 T)
  nx : ab ≠ gx
  ny : ab ≠ gy
  rx : ∀ p, p < 64 → ab ≠ rx p
  ry : ∀ p, p < 64 → ab ≠ ry p
section
variable {w0 w w' : World} {gx gy ab : Nat} {rx ry r' : Nat → Nat} {X Y L' : Nat → List Int} {K M T : Int}
theorem Two.below (h : Two w0 gx gy rx ry X Y w) (b : Below w.heap.size w w') : Two w0 gx gy rx ry X Y w' :=
  ⟨h.lx.below b, h.ly.below b, h.ox, h.oy, h.ap, h.bel.trans (b.mono h.bel.size)⟩
theorem Two.x (h : Two w0 gx gy rx ry X Y w) (n : Nx w w' gx rx r' L') : Two w0 gx gy r' ry L' Y w' :=
  ⟨n.lf, h.ly.apart n.ch h.ap, n.own h.ox h.bel.size, h.oy, n.apart h.ly h.ap, h.bel.trans (n.below h.ox h.bel.size)⟩
theorem Two.y (h : Two w0 gx gy rx ry X Y w) (n : Nx w w' gy ry r' L') : Two w0 gx gy rx r' X L' w' :=
  ⟨h.lx.apart n.ch h.ap.symm, n.lf, h.ox, n.own h.oy h.bel.size, (n.apart h.lx h.ap.symm).symm, h.bel.trans (n.below h.oy h.bel.size)⟩
theorem Ab.lt (h : Ab ab K M T gx gy rx ry w) : ab < w.heap.size := World.block_lt_of_cell? _ _ h.d0
theorem Ab.keep (h : Ab ab K M T gx gy rx ry w) (hb : w'.heap[ab]? = w.heap[ab]?) : Ab ab K M T gx gy rx ry w' :=
  ⟨(World.cell?_of_block (a := ⟨ab, 0, none⟩) hb).trans h.d0, (World.cell?_of_block (a := ⟨ab, 1, none⟩) hb).trans h.d1, (World.cell?_of_block (a := ⟨ab, 2, none⟩) hb).trans h.d2, h.nx, h.ny, h.rx, h.ry⟩
theorem Ab.x (h : Ab ab K M T gx gy rx ry w) (n : Nx w w' gx rx r' L') : Ab ab K M T gx gy r' ry w' := by
  have h1 := h.keep (n.ch.block ab h.lt h.nx h.rx)
  exact ⟨h1.d0, h1.d1, h1.d2, h.nx, h.ny, fun p hp => by
    rcases n.fr p hp with e | e
    · rw [e]; exact h.rx p hp
    · have := h.lt; omega, h.ry⟩
theorem Ab.y (h : Ab ab K M T gx gy rx ry w) (n : Nx w w' gy ry r' L') : Ab ab K M T gx gy rx r' w' := by
  have h1 := h.keep (n.ch.block ab h.lt h.ny h.ry)
  exact ⟨h1.d0, h1.d1, h1.d2, h.nx, h.ny, h.rx, fun p hp => by
    rcases n.fr p hp with e | e
    · rw [e]; exact h.ry p hp
    · have := h.lt; omega⟩
theorem Two.act (h : Two w0 gx gy rx ry X Y w) (K M T : Int) (e : TypeId) : Two w0 gx gy rx ry X Y (w.alloc (.cells #[.int .i64 K, .int .i64 M, .int .i64 T] e)) ∧ Ab w.heap.size K M T gx gy rx ry (w.alloc (.cells #[.int .i64 K, .int .i64 M, .int .i64 T] e)) := by
  refine ⟨h.below ((Below.refl _ _).alloc (Nat.le_refl _) _), ⟨by rw [World.cell?_alloc_new]; rfl, by rw [World.cell?_alloc_new]; rfl, by rw [World.cell?_alloc_new]; rfl, ?_, ?_, fun p hp => ?_, fun p hp => ?_⟩⟩
  · have := h.lx.lt; omega
  · have := h.ly.lt; omega
  · have := h.lx.rlt hp; omega
  · have := h.ly.rlt hp; omega
end
structure OuRel (o n gx gy : Nat) (w : World) (v : Value) (wr : World) : Prop where
  ex : ∃ (j : Nat) (rx ry : Nat → Nat) (X Y : Nat → List Int), j ≤ n ∧ v = .int .i64 (j : Int) ∧ Two w gx gy rx ry X Y wr ∧ Iv o j X Y
structure InRel (o j κ gx gy ab : Nat) (K M T p : Int) (w : World) (v : Value) (wr : World) : Prop where
  ex : ∃ (rx ry : Nat → Nat) (X Y : Nat → List Int), Two w gx gy rx ry X Y wr ∧ Ab ab K M T gx gy rx ry wr ∧ ((v = .int .i64 0 ∧ Iv o j X Y) ∨ (v = .int .i64 1 ∧ Md o j κ M p X Y) ∨ (v = .int .i64 2 ∧ Iv o (j + 1) X Y))
structure ApFin (o n : Nat) (D : List Int) (w : World) (v14 v15 : Value) (wr : World) : Prop where
  ex : ∃ i : Nat, i ≤ n ∧ v14 = .int .i64 (ct o D i : Int) ∧ v15 = .int .i64 (i : Int) ∧ Below w.heap.size w wr
set_option maxRecDepth 100000 in
set_option maxHeartbeats 8000000 in
theorem apart_walk (a : Option Addr) (len cap : Nat) (out : Int) (w : World) (h0 : ActRow w a len) (hlen : len ≤ maxLen) :
    Calls Try.prog 8 #[.slice a len cap, .int .i64 out] w fun e w' => e = .returned (.bool true) ∧ Below w.heap.size w w' := by
  have H0 := Lib.hid h0
  clear h0 hlen
  have he : ∀ (x : Nat) (w : World), (binOp .eql 23 (.pointer (some ⟨x, 0, none⟩)) (.pointer none)).run Try.prog w = .ok (.bool false) w := fun _ _ => rfl
  obtain ⟨uo, o, hu0, hu1, hu2, ho64, _, hu3⟩ := low6 out
  have HO64 := Lib.hid ho64
  clear ho64
  go_enter Try.func8, Try.ntmps8
  go_wp2_with fail
  --A
  refine (new_any w).mono ?_
  rintro e w1 ⟨rfl, l1, b1⟩
  obtain ⟨gx, hgx⟩ : ∃ g, w.heap.size = g := ⟨_, rfl⟩
  obtain ⟨r1, hr1⟩ : ∃ r1 : Nat → Nat, (fun _ : Nat => w.heap.size) = r1 := ⟨_, rfl⟩
  have L1 : Hid (LF w1 gx r1 (fun _ => [])) := by rw [hr1, hgx] at l1; exact l1
  have B1 := Lib.hid b1
  have O1 : Hid (Own w.heap.size gx r1 ∧ (∀ p, r1 p = gx)) := by
    unfold Hid; rw [← hr1]; exact ⟨⟨Nat.le_of_eq hgx, fun _ _ => Nat.le_refl _⟩, fun _ => hgx⟩
  rw [hgx]
  clear l1 b1 hgx hr1
  go_wp2_with fail
  refine (new_any w1).mono ?_
  rintro e w2 ⟨rfl, l2, b2⟩
  obtain ⟨gy, hgy⟩ : ∃ g, w1.heap.size = g := ⟨_, rfl⟩
  obtain ⟨r2, hr2⟩ : ∃ r2 : Nat → Nat, (fun _ : Nat => w1.heap.size) = r2 := ⟨_, rfl⟩
  have T2 : Hid (Two w gx gy r1 r2 (fun _ => []) (fun _ => []) w2) := by
    have h1 := L1.out.lt
    have h2 := B1.out.size
    rw [hr2, hgy] at l2
    have h3 : ∀ p, r2 p = gy := by rw [← hr2]; exact fun _ => hgy
    exact ⟨L1.out.below b2, l2, O1.out.1, ⟨by omega, fun p hp => by rw [h3]; omega⟩, ⟨by omega, fun q hq => by rw [O1.out.2]; omega, fun p hp => by rw [h3]; omega, fun p q hp hq => by rw [h3, O1.out.2]; omega⟩, B1.out.trans (b2.mono B1.out.size)⟩
  rw [hgy]
  clear l2 b2 hgy hr2 L1 B1 O1
  go_wp2_with fail
  --B
  obtain ⟨n, hn⟩ : ∃ n : Nat, min len 60 = n := ⟨_, rfl⟩
  have HN : Hid (n ≤ len ∧ n ≤ 60 ∧ (n = len ∨ n = 60)) := by unfold Hid; omega
  clear hn
  go_loopw [7] (fun v wr => OuRel o n gx gy w v wr) (fun v => fun _ => 1001 - (intOf v).toNat)
  case atStart => exact ⟨⟨0, r1, r2, _, _, Nat.zero_le _, rfl, T2.out, Iv.start o⟩⟩
  case round =>
    clear T2
    obtain ⟨⟨j, rx, ry, X, Y, hj, rfl, ht, hi⟩⟩ := hrel
    have HT := Lib.hid ht
    have HI := Lib.hid hi
    have HJ := Lib.hid hj
    clear ht hi hj
    by_cases hlt : j < n
    · obtain ⟨b, off, Kf, Mf, Tf, rfl, hc⟩ := H0.out (by have := HN.out; omega)
      obtain ⟨c0, c1, c2⟩ := hc j (by have := HN.out; omega)
      obtain ⟨K, hK⟩ : ∃ x, Kf j = x := ⟨_, rfl⟩
      obtain ⟨M, hM⟩ : ∃ x, Mf j = x := ⟨_, rfl⟩
      obtain ⟨T, hT⟩ : ∃ x, Tf j = x := ⟨_, rfl⟩
      rw [hK] at c0
      rw [hM] at c1
      rw [hT] at c2
      have d0 := cell_later HT.out.bel c0
      have d1 := cell_later HT.out.bel c1
      have d2 := cell_later HT.out.bel c2
      have hjl : (j : Int) < (len : Int) := by have := HN.out; omega
      have hj60 : (j : Int) < 60 := by have := HN.out; omega
      have hj2 : (j : Int) < 1000 := by omega
      have HX : Hid (j < n) := hlt
      obtain ⟨um, p, hm0, hm1, hm2, hp64, hmp, hm3⟩ := low6 M
      have HP : Hid (p < 64 ∧ M % 64 = (p : Int)) := ⟨hp64, hmp⟩
      obtain ⟨uk, κ, hk0, hk1, hk2, hk3⟩ := low3 K
      have HK := Lib.hid hk3
      clear hc hK hM hT c0 c1 c2 hlt hp64 hmp hk3
      go_wp2_with fail
      --C
      obtain ⟨TA, AA⟩ := HT.out.act K M T 29
      obtain ⟨ab, hab⟩ : ∃ ab, wr.heap.size = ab := ⟨_, rfl⟩
      obtain ⟨wo, hwo⟩ : ∃ wo, wr.alloc (.cells #[.int .i64 K, .int .i64 M, .int .i64 T] 29) = wo := ⟨_, rfl⟩
      rw [hwo] at TA AA ⊢
      rw [hab] at AA ⊢
      have TA' := Lib.hid TA
      have AA' := Lib.hid AA
      clear TA AA hwo hab HT d0 d1 d2
      go_loopw [10] (fun v wx => InRel o j κ gx gy ab K M T (p : Int) w v wx) (fun v => fun _ => 3 - (intOf v).toNat)
      case atStart => exact ⟨⟨rx, ry, X, Y, TA'.out, AA'.out, .inl ⟨rfl, HI.out⟩⟩⟩
      case round =>
        clear TA' AA' HI
        obtain ⟨⟨rx, ry, X, Y, ht, ha, hcase⟩⟩ := hrel
        have HT := Lib.hid ht
        have HA := Lib.hid ha
        have d0 := ha.d0
        have d1 := ha.d1
        clear ht ha
        rcases hcase with ⟨rfl, hi⟩ | ⟨rfl, hi⟩ | ⟨rfl, hi⟩
        · have HI := Lib.hid hi
          clear hi
          rcases HK.out with hκ | hκ | hκ
          · subst hκ
            go_wp2_with fail
            --x0
            refine (put_any gx rx X M (p : Int) wr HT.out.lx (fun q hq => by have := HI.out.lx q hq; have := HN.out; have := HX.out; omega)).mono ?_
            rintro e w2 ⟨r2, rfl, n2⟩
            obtain ⟨z, hz⟩ : ∃ z, rfz X M (p : Int) = z := ⟨_, rfl⟩
            rw [hz]
            clear hz
            have HS : Hid (Stp 0 M (p : Int) X (putL X M (p : Int))) := .inl ⟨rfl, rfl⟩
            obtain ⟨L2, hL2⟩ : ∃ L2, putL X M (p : Int) = L2 := ⟨_, rfl⟩
            rw [hL2] at n2 HS
            clear hL2
            have T2 := Lib.hid (HT.out.x n2)
            have A2 := Lib.hid (HA.out.x n2)
            clear n2 HT HA d0 d1
            have HR : Hid (Md o j 0 M (p : Int) L2 Y) := ⟨X, HI.out, HS.out⟩
            clear HI HS
            go_wp2_with fail
            go_roundw
            case rel =>
              have Q : InRel o j 0 gx gy ab K M T (p : Int) w (.int .i64 1) w2 := ⟨⟨r2, ry, L2, Y, T2.out, A2.out, .inr (.inl ⟨rfl, HR.out⟩)⟩⟩
              first | exact Q | ((repeat apply Exists.intro); exact ⟨Q, rfl⟩)
            case measure => simp [intOf]
          · subst hκ
            go_wp2_with fail
            --x1
            refine (front_any gx rx X M (p : Int) wr HT.out.lx (fun q hq => by have := HI.out.lx q hq; have := HN.out; have := HX.out; omega)).mono ?_
            rintro e w2 ⟨r2, rfl, n2⟩
            obtain ⟨z, hz⟩ : ∃ z, rfz X M (p : Int) = z := ⟨_, rfl⟩
            rw [hz]
            clear hz
            have HS : Hid (Stp 1 M (p : Int) X (frontL X M (p : Int))) := .inr (.inl ⟨rfl, rfl⟩)
            obtain ⟨L2, hL2⟩ : ∃ L2, frontL X M (p : Int) = L2 := ⟨_, rfl⟩
            rw [hL2] at n2 HS
            clear hL2
            have T2 := Lib.hid (HT.out.x n2)
            have A2 := Lib.hid (HA.out.x n2)
            clear n2 HT HA d0 d1
            have HR : Hid (Md o j 1 M (p : Int) L2 Y) := ⟨X, HI.out, HS.out⟩
            clear HI HS
            go_wp2_with fail
            go_roundw
            case rel =>
              have Q : InRel o j 1 gx gy ab K M T (p : Int) w (.int .i64 1) w2 := ⟨⟨r2, ry, L2, Y, T2.out, A2.out, .inr (.inl ⟨rfl, HR.out⟩)⟩⟩
              first | exact Q | ((repeat apply Exists.intro); exact ⟨Q, rfl⟩)
            case measure => simp [intOf]
          · subst hκ
            go_wp2_with fail
            --x2
            refine (drop_any gx rx X M wr HT.out.lx (sm_of (fun q hq => by have := HI.out.lx q hq; have := HN.out; have := HX.out; omega))).mono ?_
            rintro e w2 ⟨ok, L2, rfl, hd, n2⟩
            have HS : Hid (Stp 2 M (p : Int) X L2) := .inr (.inr ⟨rfl, ok, hd⟩)
            clear hd
            have T2 := Lib.hid (HT.out.x n2)
            have A2 := Lib.hid (HA.out.x n2)
            clear n2 HT HA d0 d1
            have HR : Hid (Md o j 2 M (p : Int) L2 Y) := ⟨X, HI.out, HS.out⟩
            clear HI HS
            go_wp2_with fail
            go_roundw
            case rel =>
              have Q : InRel o j 2 gx gy ab K M T (p : Int) w (.int .i64 1) w2 := ⟨⟨rx, ry, L2, Y, T2.out, A2.out, .inr (.inl ⟨rfl, HR.out⟩)⟩⟩
              first | exact Q | ((repeat apply Exists.intro); exact ⟨Q, rfl⟩)
            case measure => simp [intOf]
        · have HI := Lib.hid hi
          clear hi
          by_cases hpo : p = o
          · have hpoB : ((p : Int) == (o : Int)) = true := by rw [hpo]; simp
            have HR := Lib.hid (HI.out.out_ HP.out.2 HP.out.1 hpo)
            clear hpo
            go_wp2_with fail
            go_roundw
            case rel =>
              have Q : InRel o j κ gx gy ab K M T (p : Int) w (.int .i64 2) wr := ⟨⟨rx, ry, X, Y, HT.out, HA.out, .inr (.inr ⟨rfl, HR.out⟩)⟩⟩
              first | exact Q | ((repeat apply Exists.intro); exact ⟨Q, rfl⟩)
            case measure => simp [intOf]
          · have hpoB : ((p : Int) == (o : Int)) = false := by rw [beq_eq_false_iff_ne]; omega
            have HPO : Hid (p ≠ o) := hpo
            clear hpo
            rcases HK.out with hκ | hκ | hκ
            · subst hκ
              go_wp2_with fail
              --y0
              refine (put_any gy ry Y M (p : Int) wr HT.out.ly (fun q hq => by obtain ⟨X0, h1, _⟩ := HI.out; have := h1.ly q hq; have := HN.out; have := HX.out; omega)).mono ?_
              rintro e w2 ⟨r2, rfl, n2⟩
              obtain ⟨z, hz⟩ : ∃ z, rfz Y M (p : Int) = z := ⟨_, rfl⟩
              rw [hz]
              clear hz
              have HS : Hid (Stp 0 M (p : Int) Y (putL Y M (p : Int))) := .inl ⟨rfl, rfl⟩
              obtain ⟨L2, hL2⟩ : ∃ L2, putL Y M (p : Int) = L2 := ⟨_, rfl⟩
              rw [hL2] at n2 HS
              clear hL2
              have T2 := Lib.hid (HT.out.y n2)
              have A2 := Lib.hid (HA.out.y n2)
              clear n2 HT HA d0 d1
              have HR := Lib.hid (HI.out.in_ HP.out.2 HP.out.1 HPO.out HS.out)
              clear HI HS
              go_wp2_with fail
              go_roundw
              case rel =>
                have Q : InRel o j 0 gx gy ab K M T (p : Int) w (.int .i64 2) w2 := ⟨⟨rx, r2, X, L2, T2.out, A2.out, .inr (.inr ⟨rfl, HR.out⟩)⟩⟩
                first | exact Q | ((repeat apply Exists.intro); exact ⟨Q, rfl⟩)
              case measure => simp [intOf]
            · subst hκ
              go_wp2_with fail
              --y1
              refine (front_any gy ry Y M (p : Int) wr HT.out.ly (fun q hq => by obtain ⟨X0, h1, _⟩ := HI.out; have := h1.ly q hq; have := HN.out; have := HX.out; omega)).mono ?_
              rintro e w2 ⟨r2, rfl, n2⟩
              obtain ⟨z, hz⟩ : ∃ z, rfz Y M (p : Int) = z := ⟨_, rfl⟩
              rw [hz]
              clear hz
              have HS : Hid (Stp 1 M (p : Int) Y (frontL Y M (p : Int))) := .inr (.inl ⟨rfl, rfl⟩)
              obtain ⟨L2, hL2⟩ : ∃ L2, frontL Y M (p : Int) = L2 := ⟨_, rfl⟩
              rw [hL2] at n2 HS
              clear hL2
              have T2 := Lib.hid (HT.out.y n2)
              have A2 := Lib.hid (HA.out.y n2)
              clear n2 HT HA d0 d1
              have HR := Lib.hid (HI.out.in_ HP.out.2 HP.out.1 HPO.out HS.out)
              clear HI HS
              go_wp2_with fail
              go_roundw
              case rel =>
                have Q : InRel o j 1 gx gy ab K M T (p : Int) w (.int .i64 2) w2 := ⟨⟨rx, r2, X, L2, T2.out, A2.out, .inr (.inr ⟨rfl, HR.out⟩)⟩⟩
                first | exact Q | ((repeat apply Exists.intro); exact ⟨Q, rfl⟩)
              case measure => simp [intOf]
            · subst hκ
              go_wp2_with fail
              --y2
              refine (drop_any gy ry Y M wr HT.out.ly (sm_of (fun q hq => by obtain ⟨X0, h1, _⟩ := HI.out; have := h1.ly q hq; have := HN.out; have := HX.out; omega))).mono ?_
              rintro e w2 ⟨ok, L2, rfl, hd, n2⟩
              have HS : Hid (Stp 2 M (p : Int) Y L2) := .inr (.inr ⟨rfl, ok, hd⟩)
              clear hd
              have T2 := Lib.hid (HT.out.y n2)
              have A2 := Lib.hid (HA.out.y n2)
              clear n2 HT HA d0 d1
              have HR := Lib.hid (HI.out.in_ HP.out.2 HP.out.1 HPO.out HS.out)
              clear HI HS
              go_wp2_with fail
              go_roundw
              case rel =>
                have Q : InRel o j 2 gx gy ab K M T (p : Int) w (.int .i64 2) w2 := ⟨⟨rx, ry, X, L2, T2.out, A2.out, .inr (.inr ⟨rfl, HR.out⟩)⟩⟩
                first | exact Q | ((repeat apply Exists.intro); exact ⟨Q, rfl⟩)
              case measure => simp [intOf]
        · have HI := Lib.hid hi
          clear hi
          go_wp2_with fail
          go_roundw
          case rel =>
            have Q : OuRel o n gx gy w (.int .i64 ((j : Int) + 1)) wr := ⟨⟨j + 1, rx, ry, X, Y, HX.out, by go_num, HT.out, HI.out⟩⟩
            first | exact Q | ((repeat apply Exists.intro); exact ⟨Q, rfl⟩)
          case measure => have := HX.out; have := HN.out; simp [intOf]; omega
    · have hjn : j = n := by have := HJ.out; omega
      subst hjn
      clear hlt
      by_cases hkl : (j : Int) < (len : Int)
      · have hk60 : ¬ (j : Int) < 60 := by have := HN.out; omega
        have hk60B : decide ((j : Int) < 60) = false := by rw [decide_eq_false_iff_not]; exact hk60
        go_wp2_with fail
        --T
        refine (all_any gx rx X wr HT.out.lx (sm_of (fun q hq => by have := HI.out.lx q hq; have := HN.out; omega))).mono ?_
        rintro e w2 ⟨A1, n1, c1, rfl, o1, b1⟩
        have T2 := Lib.hid (HT.out.below b1)
        have R1 := Lib.hid (Reads.of_own o1)
        have NL : Hid (n1 ≤ 64000 ∧ (allL X).length = n1) := by
          have h1 := o1.1
          rw [C_len] at h1
          have h2 := af_len (sm_of (fun q hq => by have := HI.out.lx q hq; have := HN.out; omega) : Sm X) 64 (Nat.le_refl _)
          unfold allL at *
          unfold Hid; omega
        clear o1 b1 HT
        go_wp2_with fail
        refine (all_any gy ry Y w2 T2.out.ly (sm_of (fun q hq => by have := HI.out.ly q hq; have := HN.out; omega))).mono ?_
        rintro e w3 ⟨A2, n2, c2, rfl, o2, b2⟩
        have T3 := Lib.hid (T2.out.below b2)
        have R2 := Lib.hid (Reads.of_own o2)
        have R1' := Lib.hid (R1.out.below b2)
        have SZ : Hid (w2.heap.size ≤ w3.heap.size) := b2.size
        obtain ⟨D, hD⟩ : ∃ D, allL X = D := ⟨_, rfl⟩
        obtain ⟨E, hE⟩ : ∃ E, allL Y = E := ⟨_, rfl⟩
        have HE : Hid (E = D.filter (ot o) ∧ E.length = n2) := by
          have h1 := o2.1
          rw [C_len, hE] at h1
          refine ⟨?_, by omega⟩
          rw [← hE, ← hD]
          exact af_filter HI.out 64 (Nat.le_refl _)
        rw [hD] at NL R1 R1'
        rw [hE] at R2
        clear o2 b2 hD hE R1 T2 HI
        go_wp2_with fail
        --L
        go_loopw [14, 15] (fun v14 v15 wx => ApFin o n1 D w3 v14 v15 wx) (fun _ v => fun _ => 64001 - (intOf v).toNat)
        case atStart => exact ⟨⟨0, Nat.zero_le _, rfl, rfl, Below.refl _ _⟩⟩
        case round =>
          obtain ⟨⟨i, hi, rfl, rfl, hb⟩⟩ := hrel
          have HB := Lib.hid hb
          have HII := Lib.hid hi
          obtain ⟨k, hk⟩ : ∃ k, ct o D i = k := ⟨_, rfl⟩
          have HKC := Lib.hid hk
          rw [hk]
          clear hb hi hk
          by_cases hlt : i < n1
          · obtain ⟨bb, oo, rfl, _, _, hcc⟩ := place_i R1'.out (by omega)
            have d0 := cell_later HB.out (hcc i hlt)
            obtain ⟨x, hx⟩ : ∃ x, D.getD i 0 = x := ⟨_, rfl⟩
            rw [hx] at d0
            have HXX := Lib.hid hx
            have hiI : (i : Int) < (n1 : Int) := by omega
            have hi2 : (i : Int) < 100000 := by have := NL.out; omega
            have HX : Hid (i < n1) := hlt
            have HST : Hid (ct o D (i + 1) = k + (if ot o x = true then 1 else 0)) := by
              have := ct_step (o := o) (D := D) (i := i) (by rw [NL.out.2]; exact hlt)
              rw [HKC.out, hx] at this
              exact this
            obtain ⟨ux, px, hx0, hx1, hx2, hp64, hxp, hx3⟩ := low6 x
            have HPX : Hid (x % 64 = (px : Int)) := hxp
            clear hcc hx hlt hp64 hxp
            by_cases hpo : px = o
            · have hpoB : ((px : Int) == (o : Int)) = true := by rw [hpo]; simp
              have HN2 : Hid (ct o D (i + 1) = k) := by
                unfold Hid
                rw [HST.out, if_neg]; rfl
                simp [ot, HPX.out, hpo]
              clear hpo HST
              go_wp2_with fail
              --L1
              go_roundw
              case rel =>
                have Q : ApFin o n1 D w3 (.int .i64 (k : Int)) (.int .i64 ((i : Int) + 1)) wr := ⟨⟨i + 1, HX.out, by rw [HN2.out], by go_num, HB.out⟩⟩
                first | exact Q | ((repeat apply Exists.intro); exact ⟨Q, rfl⟩)
              case measure => have := HX.out; have := NL.out; simp [intOf]; omega
            · have hpoB : ((px : Int) == (o : Int)) = false := by rw [beq_eq_false_iff_ne]; omega
              have hot : ot o x = true := by simp [ot, HPX.out]; omega
              have HN2 : Hid (ct o D (i + 1) = k + 1) := by
                unfold Hid
                rw [HST.out, if_pos hot]
              have HEK : Hid (k < n2 ∧ E.getD k 0 = x) := by
                have h1 := ct_at (o := o) (D := D) (i := i) (by rw [NL.out.2]; exact HX.out) (by rw [HXX.out]; exact hot)
                rw [← HE.out.1, HE.out.2, HKC.out, HXX.out] at h1
                exact h1
              obtain ⟨b2, o2, rfl, _, _, hc2⟩ := place_i R2.out (by have := HEK.out.1; omega)
              have d1 := cell_later HB.out (hc2 k HEK.out.1)
              rw [HEK.out.2] at d1
              have hkB : decide ((n2 : Int) ≤ (k : Int)) = false := by rw [decide_eq_false_iff_not]; have := HEK.out.1; omega
              have hkB2 : decide (n2 ≤ k) = false := by rw [decide_eq_false_iff_not]; have := HEK.out.1; omega
              have hkI : (k : Int) < (n2 : Int) := by have := HEK.out.1; omega
              have hk2 : (k : Int) < 100000 := by have := ct_le o D i; have := HKC.out; omega
              have hk3 : ¬ (n2 : Int) ≤ (k : Int) := by omega
              have hxx : (x != x) = false := by simp
              clear hpo HST hot hc2
              go_wp2_with fail
              --L2
              refine wp_region_held_drew (S := (fun w' => Below wr.heap.size wr w' ∧ w'.cell? ⟨bb, oo + i, none⟩ = some (.int .i64 x) ∧ w'.cell? ⟨b2, o2 + k, none⟩ = some (.int .i64 x))) (by kernel_rfl) ?_ (fun hHeld => ?_)
              · exact ⟨(Below.refl _ _).drew, d0, d1⟩
              refine takeD (i := 0) (d := some 105) (v := ?_) _ rfl rfl (by kernel_rfl) (by kernel_rfl) (by kernel_rfl) (fun _ _ _ h => h) (by rfl) ?_ (by assumption) ?_
              rotate_left
              · (intro w hSw; (try dsimp only at hSw); go_simp) <;> with_reducible rfl
              try simp only [Act.put, List.setIfInBounds_toArray, List.set_cons_zero, List.set_cons_succ]
              refine takeD (i := 1) (d := some 106) (v := ?_) _ rfl rfl (by kernel_rfl) (by kernel_rfl) (by kernel_rfl) (fun _ _ _ h => h) (by rfl) ?_ (by assumption) ?_
              rotate_left
              · (intro w hSw; (try dsimp only at hSw); go_simp) <;> with_reducible rfl
              try simp only [Act.put, List.setIfInBounds_toArray, List.set_cons_zero, List.set_cons_succ]
              refine takeD (i := 2) (d := some 107) (v := ?_) _ rfl rfl (by kernel_rfl) (by kernel_rfl) (by kernel_rfl) (fun _ _ _ h => h) (by rfl) ?_ (by assumption) ?_
              rotate_left
              · (intro w hSw; (try dsimp only at hSw); go_simp) <;> with_reducible rfl
              try simp only [Act.put, List.setIfInBounds_toArray, List.set_cons_zero, List.set_cons_succ]
              refine takeD (i := 3) (d := some 108) (v := ?_) _ rfl rfl (by kernel_rfl) (by kernel_rfl) (by kernel_rfl) (fun _ _ _ h => h) (by rfl) ?_ (by assumption) ?_
              rotate_left
              · (intro w hSw; (try dsimp only at hSw); go_simp) <;> with_reducible rfl
              try simp only [Act.put, List.setIfInBounds_toArray, List.set_cons_zero, List.set_cons_succ]
              refine takeD (i := 4) (d := some 109) (v := ?_) _ rfl rfl (by kernel_rfl) (by kernel_rfl) (by kernel_rfl) (fun _ _ _ h => h) (by rfl) ?_ (by assumption) ?_
              rotate_left
              · (intro w hSw; (try dsimp only at hSw); go_simp) <;> with_reducible rfl
              try simp only [Act.put, List.setIfInBounds_toArray, List.set_cons_zero, List.set_cons_succ]
              refine takeD (i := 5) (d := some 110) (v := ?_) _ rfl rfl (by kernel_rfl) (by kernel_rfl) (by kernel_rfl) (fun _ _ _ h => h) (by rfl) ?_ (by assumption) ?_
              rotate_left
              · (intro w hSw; (try dsimp only at hSw); go_simp) <;> with_reducible rfl
              try simp only [Act.put, List.setIfInBounds_toArray, List.set_cons_zero, List.set_cons_succ]
              refine takeD (i := 6) (d := some 111) (v := ?_) _ rfl rfl (by kernel_rfl) (by kernel_rfl) (by kernel_rfl) (fun _ _ _ h => h) (by rfl) ?_ (by assumption) ?_
              rotate_left
              · (intro w hSw; (try dsimp only at hSw); go_simp) <;> with_reducible rfl
              try simp only [Act.put, List.setIfInBounds_toArray, List.set_cons_zero, List.set_cons_succ]
              refine takeD (i := 7) (d := some 112) (v := ?_) _ rfl rfl (by kernel_rfl) (by kernel_rfl) (by kernel_rfl) (fun _ _ _ h => h) (by rfl) ?_ (by assumption) ?_
              rotate_left
              · (intro w hSw; (try dsimp only at hSw); go_simp) <;> with_reducible rfl
              try simp only [Act.put, List.setIfInBounds_toArray, List.set_cons_zero, List.set_cons_succ]
              refine takeD (i := 8) (d := some 113) (v := ?_) _ rfl rfl (by kernel_rfl) (by kernel_rfl) (by kernel_rfl) (fun _ _ _ h => h) (by rfl) ?_ (by assumption) ?_
              rotate_left
              · (intro w hSw; (try dsimp only at hSw); go_simp) <;> with_reducible rfl
              try simp only [Act.put, List.setIfInBounds_toArray, List.set_cons_zero, List.set_cons_succ]
              refine takeD (i := 9) (d := some 114) (v := ?_) _ rfl rfl (by kernel_rfl) (by kernel_rfl) (by kernel_rfl) (fun _ _ _ h => h) (by rfl) ?_ (by assumption) ?_
              rotate_left
              · (intro w hSw; (try dsimp only at hSw); go_simp) <;> with_reducible rfl
              try simp only [Act.put, List.setIfInBounds_toArray, List.set_cons_zero, List.set_cons_succ]
              refine takeD (i := 10) (d := some 115) (v := ?_) _ rfl rfl (by kernel_rfl) (by kernel_rfl) (by kernel_rfl) (fun _ _ _ h => h) (by rfl) ?_ (by assumption) ?_
              rotate_left
              · (intro w hSw; (try dsimp only at hSw); go_simp) <;> with_reducible rfl
              try simp only [Act.put, List.setIfInBounds_toArray, List.set_cons_zero, List.set_cons_succ]
              refine takeD (i := 11) (d := some 116) (v := ?_) _ rfl rfl (by kernel_rfl) (by kernel_rfl) (by kernel_rfl) (fun _ _ _ h => h) (by rfl) ?_ (by assumption) ?_
              rotate_left
              · (intro w hSw; (try dsimp only at hSw); go_simp) <;> with_reducible rfl
              try simp only [Act.put, List.setIfInBounds_toArray, List.set_cons_zero, List.set_cons_succ]
              refine takeD (i := 12) (d := some 117) (v := ?_) _ rfl rfl (by kernel_rfl) (by kernel_rfl) (by kernel_rfl) (fun _ _ _ h => h) (by rfl) ?_ (by assumption) ?_
              rotate_left
              · (intro w hSw; (try dsimp only at hSw); go_simp) <;> with_reducible rfl
              try simp only [Act.put, List.setIfInBounds_toArray, List.set_cons_zero, List.set_cons_succ]
              refine takeD (i := 13) (d := some 118) (v := ?_) _ rfl rfl (by kernel_rfl) (by kernel_rfl) (by kernel_rfl) (fun _ _ _ h => h) (by rfl) ?_ (by assumption) ?_
              rotate_left
              · (intro w hSw; (try dsimp only at hSw); go_simp) <;> with_reducible rfl
              try simp only [Act.put, List.setIfInBounds_toArray, List.set_cons_zero, List.set_cons_succ]
              refine takeD (i := 14) (d := some 119) (v := ?_) _ rfl rfl (by kernel_rfl) (by kernel_rfl) (by kernel_rfl) (fun _ _ _ h => h) (by rfl) ?_ (by assumption) ?_
              rotate_left
              · (intro w hSw; (try dsimp only at hSw); go_simp) <;> with_reducible rfl
              try simp only [Act.put, List.setIfInBounds_toArray, List.set_cons_zero, List.set_cons_succ]
              refine wpAnyH_done (by kernel_rfl) ?_ _
              have HB2 := Lib.hid (HB.out.trans (hHeld.1.mono HB.out.size))
              clear hHeld
              go_wp2_with fail
              go_roundw
              case rel =>
                have Q : ApFin o n1 D w3 (.int .i64 ((k : Int) + 1)) (.int .i64 ((i : Int) + 1)) wr.drew := ⟨⟨i + 1, HX.out, by rw [HN2.out]; go_num, by go_num, HB2.out⟩⟩
                first | exact Q | ((repeat apply Exists.intro); exact ⟨Q, rfl⟩)
              case measure => have := HX.out; have := NL.out; simp [intOf]; omega
          · have hiI : ¬ (i : Int) < (n1 : Int) := by omega
            have hin : i = n1 := by have := HII.out; omega
            have hkn : k = n2 := by
              have := ct_all (o := o) (D := D) (i := i) (by rw [NL.out.2]; exact hin)
              rw [HKC.out, ← HE.out.1, HE.out.2] at this
              exact this
            subst hkn
            have T4 := Lib.hid (T3.out.below HB.out)
            clear hin hlt
            go_wp2_with fail
            --K
            refine (known_any wr).mono ?_
            rintro e w5 ⟨rfl, b5⟩
            have T5 := Lib.hid (T4.out.below b5)
            clear b5
            go_wp2_with fail
            --Z
            go_ret
            exact ⟨rfl, T5.out.bel⟩
      · have hklB : decide ((j : Int) < (len : Int)) = false := by rw [decide_eq_false_iff_not]; exact hkl
        have hklB2 : decide (j < len) = false := by rw [decide_eq_false_iff_not]; omega
        go_wp2_with fail
        --T
        refine (all_any gx rx X wr HT.out.lx (sm_of (fun q hq => by have := HI.out.lx q hq; have := HN.out; omega))).mono ?_
        rintro e w2 ⟨A1, n1, c1, rfl, o1, b1⟩
        have T2 := Lib.hid (HT.out.below b1)
        have R1 := Lib.hid (Reads.of_own o1)
        have NL : Hid (n1 ≤ 64000 ∧ (allL X).length = n1) := by
          have h1 := o1.1
          rw [C_len] at h1
          have h2 := af_len (sm_of (fun q hq => by have := HI.out.lx q hq; have := HN.out; omega) : Sm X) 64 (Nat.le_refl _)
          unfold allL at *
          unfold Hid; omega
        clear o1 b1 HT
        go_wp2_with fail
        refine (all_any gy ry Y w2 T2.out.ly (sm_of (fun q hq => by have := HI.out.ly q hq; have := HN.out; omega))).mono ?_
        rintro e w3 ⟨A2, n2, c2, rfl, o2, b2⟩
        have T3 := Lib.hid (T2.out.below b2)
        have R2 := Lib.hid (Reads.of_own o2)
        have R1' := Lib.hid (R1.out.below b2)
        have SZ : Hid (w2.heap.size ≤ w3.heap.size) := b2.size
        obtain ⟨D, hD⟩ : ∃ D, allL X = D := ⟨_, rfl⟩
        obtain ⟨E, hE⟩ : ∃ E, allL Y = E := ⟨_, rfl⟩
        have HE : Hid (E = D.filter (ot o) ∧ E.length = n2) := by
          have h1 := o2.1
          rw [C_len, hE] at h1
          refine ⟨?_, by omega⟩
          rw [← hE, ← hD]
          exact af_filter HI.out 64 (Nat.le_refl _)
        rw [hD] at NL R1 R1'
        rw [hE] at R2
        clear o2 b2 hD hE R1 T2 HI
        go_wp2_with fail
        --L
        go_loopw [14, 15] (fun v14 v15 wx => ApFin o n1 D w3 v14 v15 wx) (fun _ v => fun _ => 64001 - (intOf v).toNat)
        case atStart => exact ⟨⟨0, Nat.zero_le _, rfl, rfl, Below.refl _ _⟩⟩
        case round =>
          obtain ⟨⟨i, hi, rfl, rfl, hb⟩⟩ := hrel
          have HB := Lib.hid hb
          have HII := Lib.hid hi
          obtain ⟨k, hk⟩ : ∃ k, ct o D i = k := ⟨_, rfl⟩
          have HKC := Lib.hid hk
          rw [hk]
          clear hb hi hk
          by_cases hlt : i < n1
          · obtain ⟨bb, oo, rfl, _, _, hcc⟩ := place_i R1'.out (by omega)
            have d0 := cell_later HB.out (hcc i hlt)
            obtain ⟨x, hx⟩ : ∃ x, D.getD i 0 = x := ⟨_, rfl⟩
            rw [hx] at d0
            have HXX := Lib.hid hx
            have hiI : (i : Int) < (n1 : Int) := by omega
            have hi2 : (i : Int) < 100000 := by have := NL.out; omega
            have HX : Hid (i < n1) := hlt
            have HST : Hid (ct o D (i + 1) = k + (if ot o x = true then 1 else 0)) := by
              have := ct_step (o := o) (D := D) (i := i) (by rw [NL.out.2]; exact hlt)
              rw [HKC.out, hx] at this
              exact this
            obtain ⟨ux, px, hx0, hx1, hx2, hp64, hxp, hx3⟩ := low6 x
            have HPX : Hid (x % 64 = (px : Int)) := hxp
            clear hcc hx hlt hp64 hxp
            by_cases hpo : px = o
            · have hpoB : ((px : Int) == (o : Int)) = true := by rw [hpo]; simp
              have HN2 : Hid (ct o D (i + 1) = k) := by
                unfold Hid
                rw [HST.out, if_neg]; rfl
                simp [ot, HPX.out, hpo]
              clear hpo HST
              go_wp2_with fail
              --L1
              go_roundw
              case rel =>
                have Q : ApFin o n1 D w3 (.int .i64 (k : Int)) (.int .i64 ((i : Int) + 1)) wr := ⟨⟨i + 1, HX.out, by rw [HN2.out], by go_num, HB.out⟩⟩
                first | exact Q | ((repeat apply Exists.intro); exact ⟨Q, rfl⟩)
              case measure => have := HX.out; have := NL.out; simp [intOf]; omega
            · have hpoB : ((px : Int) == (o : Int)) = false := by rw [beq_eq_false_iff_ne]; omega
              have hot : ot o x = true := by simp [ot, HPX.out]; omega
              have HN2 : Hid (ct o D (i + 1) = k + 1) := by
                unfold Hid
                rw [HST.out, if_pos hot]
              have HEK : Hid (k < n2 ∧ E.getD k 0 = x) := by
                have h1 := ct_at (o := o) (D := D) (i := i) (by rw [NL.out.2]; exact HX.out) (by rw [HXX.out]; exact hot)
                rw [← HE.out.1, HE.out.2, HKC.out, HXX.out] at h1
                exact h1
              obtain ⟨b2, o2, rfl, _, _, hc2⟩ := place_i R2.out (by have := HEK.out.1; omega)
              have d1 := cell_later HB.out (hc2 k HEK.out.1)
              rw [HEK.out.2] at d1
              have hkB : decide ((n2 : Int) ≤ (k : Int)) = false := by rw [decide_eq_false_iff_not]; have := HEK.out.1; omega
              have hkB2 : decide (n2 ≤ k) = false := by rw [decide_eq_false_iff_not]; have := HEK.out.1; omega
              have hkI : (k : Int) < (n2 : Int) := by have := HEK.out.1; omega
              have hk2 : (k : Int) < 100000 := by have := ct_le o D i; have := HKC.out; omega
              have hk3 : ¬ (n2 : Int) ≤ (k : Int) := by omega
              have hxx : (x != x) = false := by simp
              clear hpo HST hot hc2
              go_wp2_with fail
              --L2
              refine wp_region_held_drew (S := (fun w' => Below wr.heap.size wr w' ∧ w'.cell? ⟨bb, oo + i, none⟩ = some (.int .i64 x) ∧ w'.cell? ⟨b2, o2 + k, none⟩ = some (.int .i64 x))) (by kernel_rfl) ?_ (fun hHeld => ?_)
              · exact ⟨(Below.refl _ _).drew, d0, d1⟩
              refine takeD (i := 0) (d := some 105) (v := ?_) _ rfl rfl (by kernel_rfl) (by kernel_rfl) (by kernel_rfl) (fun _ _ _ h => h) (by rfl) ?_ (by assumption) ?_
              rotate_left
              · (intro w hSw; (try dsimp only at hSw); go_simp) <;> with_reducible rfl
              try simp only [Act.put, List.setIfInBounds_toArray, List.set_cons_zero, List.set_cons_succ]
              refine takeD (i := 1) (d := some 106) (v := ?_) _ rfl rfl (by kernel_rfl) (by kernel_rfl) (by kernel_rfl) (fun _ _ _ h => h) (by rfl) ?_ (by assumption) ?_
              rotate_left
              · (intro w hSw; (try dsimp only at hSw); go_simp) <;> with_reducible rfl
              try simp only [Act.put, List.setIfInBounds_toArray, List.set_cons_zero, List.set_cons_succ]
              refine takeD (i := 2) (d := some 107) (v := ?_) _ rfl rfl (by kernel_rfl) (by kernel_rfl) (by kernel_rfl) (fun _ _ _ h => h) (by rfl) ?_ (by assumption) ?_
              rotate_left
              · (intro w hSw; (try dsimp only at hSw); go_simp) <;> with_reducible rfl
              try simp only [Act.put, List.setIfInBounds_toArray, List.set_cons_zero, List.set_cons_succ]
              refine takeD (i := 3) (d := some 108) (v := ?_) _ rfl rfl (by kernel_rfl) (by kernel_rfl) (by kernel_rfl) (fun _ _ _ h => h) (by rfl) ?_ (by assumption) ?_
              rotate_left
              · (intro w hSw; (try dsimp only at hSw); go_simp) <;> with_reducible rfl
              try simp only [Act.put, List.setIfInBounds_toArray, List.set_cons_zero, List.set_cons_succ]
              refine takeD (i := 4) (d := some 109) (v := ?_) _ rfl rfl (by kernel_rfl) (by kernel_rfl) (by kernel_rfl) (fun _ _ _ h => h) (by rfl) ?_ (by assumption) ?_
              rotate_left
              · (intro w hSw; (try dsimp only at hSw); go_simp) <;> with_reducible rfl
              try simp only [Act.put, List.setIfInBounds_toArray, List.set_cons_zero, List.set_cons_succ]
              refine takeD (i := 5) (d := some 110) (v := ?_) _ rfl rfl (by kernel_rfl) (by kernel_rfl) (by kernel_rfl) (fun _ _ _ h => h) (by rfl) ?_ (by assumption) ?_
              rotate_left
              · (intro w hSw; (try dsimp only at hSw); go_simp) <;> with_reducible rfl
              try simp only [Act.put, List.setIfInBounds_toArray, List.set_cons_zero, List.set_cons_succ]
              refine takeD (i := 6) (d := some 111) (v := ?_) _ rfl rfl (by kernel_rfl) (by kernel_rfl) (by kernel_rfl) (fun _ _ _ h => h) (by rfl) ?_ (by assumption) ?_
              rotate_left
              · (intro w hSw; (try dsimp only at hSw); go_simp) <;> with_reducible rfl
              try simp only [Act.put, List.setIfInBounds_toArray, List.set_cons_zero, List.set_cons_succ]
              refine takeD (i := 7) (d := some 112) (v := ?_) _ rfl rfl (by kernel_rfl) (by kernel_rfl) (by kernel_rfl) (fun _ _ _ h => h) (by rfl) ?_ (by assumption) ?_
              rotate_left
              · (intro w hSw; (try dsimp only at hSw); go_simp) <;> with_reducible rfl
              try simp only [Act.put, List.setIfInBounds_toArray, List.set_cons_zero, List.set_cons_succ]
              refine takeD (i := 8) (d := some 113) (v := ?_) _ rfl rfl (by kernel_rfl) (by kernel_rfl) (by kernel_rfl) (fun _ _ _ h => h) (by rfl) ?_ (by assumption) ?_
              rotate_left
              · (intro w hSw; (try dsimp only at hSw); go_simp) <;> with_reducible rfl
              try simp only [Act.put, List.setIfInBounds_toArray, List.set_cons_zero, List.set_cons_succ]
              refine takeD (i := 9) (d := some 114) (v := ?_) _ rfl rfl (by kernel_rfl) (by kernel_rfl) (by kernel_rfl) (fun _ _ _ h => h) (by rfl) ?_ (by assumption) ?_
              rotate_left
              · (intro w hSw; (try dsimp only at hSw); go_simp) <;> with_reducible rfl
              try simp only [Act.put, List.setIfInBounds_toArray, List.set_cons_zero, List.set_cons_succ]
              refine takeD (i := 10) (d := some 115) (v := ?_) _ rfl rfl (by kernel_rfl) (by kernel_rfl) (by kernel_rfl) (fun _ _ _ h => h) (by rfl) ?_ (by assumption) ?_
              rotate_left
              · (intro w hSw; (try dsimp only at hSw); go_simp) <;> with_reducible rfl
              try simp only [Act.put, List.setIfInBounds_toArray, List.set_cons_zero, List.set_cons_succ]
              refine takeD (i := 11) (d := some 116) (v := ?_) _ rfl rfl (by kernel_rfl) (by kernel_rfl) (by kernel_rfl) (fun _ _ _ h => h) (by rfl) ?_ (by assumption) ?_
              rotate_left
              · (intro w hSw; (try dsimp only at hSw); go_simp) <;> with_reducible rfl
              try simp only [Act.put, List.setIfInBounds_toArray, List.set_cons_zero, List.set_cons_succ]
              refine takeD (i := 12) (d := some 117) (v := ?_) _ rfl rfl (by kernel_rfl) (by kernel_rfl) (by kernel_rfl) (fun _ _ _ h => h) (by rfl) ?_ (by assumption) ?_
              rotate_left
              · (intro w hSw; (try dsimp only at hSw); go_simp) <;> with_reducible rfl
              try simp only [Act.put, List.setIfInBounds_toArray, List.set_cons_zero, List.set_cons_succ]
              refine takeD (i := 13) (d := some 118) (v := ?_) _ rfl rfl (by kernel_rfl) (by kernel_rfl) (by kernel_rfl) (fun _ _ _ h => h) (by rfl) ?_ (by assumption) ?_
              rotate_left
              · (intro w hSw; (try dsimp only at hSw); go_simp) <;> with_reducible rfl
              try simp only [Act.put, List.setIfInBounds_toArray, List.set_cons_zero, List.set_cons_succ]
              refine takeD (i := 14) (d := some 119) (v := ?_) _ rfl rfl (by kernel_rfl) (by kernel_rfl) (by kernel_rfl) (fun _ _ _ h => h) (by rfl) ?_ (by assumption) ?_
              rotate_left
              · (intro w hSw; (try dsimp only at hSw); go_simp) <;> with_reducible rfl
              try simp only [Act.put, List.setIfInBounds_toArray, List.set_cons_zero, List.set_cons_succ]
              refine wpAnyH_done (by kernel_rfl) ?_ _
              have HB2 := Lib.hid (HB.out.trans (hHeld.1.mono HB.out.size))
              clear hHeld
              go_wp2_with fail
              go_roundw
              case rel =>
                have Q : ApFin o n1 D w3 (.int .i64 ((k : Int) + 1)) (.int .i64 ((i : Int) + 1)) wr.drew := ⟨⟨i + 1, HX.out, by rw [HN2.out]; go_num, by go_num, HB2.out⟩⟩
                first | exact Q | ((repeat apply Exists.intro); exact ⟨Q, rfl⟩)
              case measure => have := HX.out; have := NL.out; simp [intOf]; omega
          · have hiI : ¬ (i : Int) < (n1 : Int) := by omega
            have hin : i = n1 := by have := HII.out; omega
            have hkn : k = n2 := by
              have := ct_all (o := o) (D := D) (i := i) (by rw [NL.out.2]; exact hin)
              rw [HKC.out, ← HE.out.1, HE.out.2] at this
              exact this
            subst hkn
            have T4 := Lib.hid (T3.out.below HB.out)
            clear hin hlt
            go_wp2_with fail
            --K
            refine (known_any wr).mono ?_
            rintro e w5 ⟨rfl, b5⟩
            have T5 := Lib.hid (T4.out.below b5)
            clear b5
            go_wp2_with fail
            --Z
            go_ret
            exact ⟨rfl, T5.out.bel⟩
end Go.Proofs.Ytbkjcjkbicaibaa
