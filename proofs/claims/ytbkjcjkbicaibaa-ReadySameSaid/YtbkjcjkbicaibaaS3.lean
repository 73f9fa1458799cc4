/-
  Three lists and two slices of the reference's, apart. Each statement bears its own conditions.
-/
import Derived.Test.YtbkjcjkbicaibaaDo2
import Derived.Test.YtbkjcjkbicaibaaApart
namespace Go.Proofs.Ytbkjcjkbicaibaa
open Go.RowKit
set_option linter.unusedVariables false
set_option linter.unusedSimpArgs false
theorem Ap.fresh {g g' m : Nat} {rb rb' rb2 : Nat → Nat} (h : Ap g' rb' g rb) (hg : g' < m) (hr : ∀ p, p < 64 → rb' p < m) (fr : ∀ p, p < 64 → rb2 p = rb p ∨ m ≤ rb2 p) : Ap g' rb' g rb2 := by
  refine ⟨h.1, fun q hq => ?_, h.2.2.1, fun p q hp hq => ?_⟩
  · rcases fr q hq with e | e
    · rw [e]; exact h.2.1 q hq
    · omega
  · have := hr p hp
    rcases fr q hq with e | e
    · rw [e]; exact h.2.2.2 p q hp hq
    · omega
/-- A slice away from a list. -/
def Aw (A : Option Addr) (g : Nat) (rb : Nat → Nat) : Prop := ∀ ad, A = some ad → ad.block ≠ g ∧ ∀ p, p < 64 → ad.block ≠ rb p
theorem Aw.fresh {A : Option Addr} {g m : Nat} {rb rb2 : Nat → Nat} (h : Aw A g rb) (hl : ∀ ad, A = some ad → ad.block < m) (fr : ∀ p, p < 64 → rb2 p = rb p ∨ m ≤ rb2 p) : Aw A g rb2 := fun ad e => ⟨(h ad e).1, fun p hp => by
  have := hl ad e
  rcases fr p hp with f | f
  · rw [f]; exact (h ad e).2 p hp
  · omega⟩
theorem Aw.sc {A A' : Option Addr} {g : Nat} {rb : Nat → Nat} {w w' : World} (h : Aw A g rb) (s : Sc w w' A A') (hg : g < w.heap.size) (hr : ∀ p, p < 64 → rb p < w.heap.size) : Aw A' g rb := by
  intro ad e
  rcases s ad e with ⟨a, e1, e2⟩ | ⟨h1, _⟩
  · rw [e2]; exact h a e1
  · exact ⟨by omega, fun p hp => by have := hr p hp; omega⟩
structure S3 (w0 : World) (gx gy gz : Nat) (rx ry rz : Nat → Nat) (X Y Z : Nat → List Int) (A : Option Addr) (n c : Nat) (A' : Option Addr) (n' c' : Nat) (w : World) : Prop where
  dx : DS w0 w gx rx X A n c (flP X)
  dy : DS w0 w gy ry Y A' n' c' (flP Y)
  lz : LF w gz rz Z
  kz : Okk Z
  oz : Own w0.heap.size gz rz
  yx : Ap gy ry gx rx
  zx : Ap gz rz gx rx
  zy : Ap gz rz gy ry
  sy : Aw A gy ry
  sz : Aw A gz rz
  tx : Aw A' gx rx
  tz : Aw A' gz rz
section
variable {w0 w w' : World} {gx gy gz n c n' c' n2 c2 : Nat} {rx ry rz r2 : Nat → Nat} {X Y Z X2 : Nat → List Int} {A A' A2 : Option Addr}
theorem S3.swap (h : S3 w0 gx gy gz rx ry rz X Y Z A n c A' n' c' w) : S3 w0 gy gx gz ry rx rz Y X Z A' n' c' A n c w :=
  ⟨h.dy, h.dx, h.lz, h.kz, h.oz, h.yx.symm, h.zy, h.zx, h.tx, h.tz, h.sy, h.sz⟩
theorem S3.below (h : S3 w0 gx gy gz rx ry rz X Y Z A n c A' n' c' w) (b : Below w.heap.size w w') : S3 w0 gx gy gz rx ry rz X Y Z A n c A' n' c' w' :=
  ⟨h.dx.below b, h.dy.below b, h.lz.below b, h.kz, h.oz, h.yx, h.zx, h.zy, h.sy, h.sz, h.tx, h.tz⟩
theorem S3.x (h : S3 w0 gx gy gz rx ry rz X Y Z A n c A' n' c' w) (d : DS w0 w' gx r2 X2 A2 n2 c2 (flP X2)) (s : Dn w w' gx rx r2 A A2) : S3 w0 gx gy gz r2 ry rz X2 Y Z A2 n2 c2 A' n' c' w' :=
  ⟨d, ⟨h.dy.lf.apart s.ch h.yx, h.dy.ok, h.dy.own, (h.dy.rd.ch s.ch (Nat.le_refl _) h.tx).more s.ch.size, h.dy.len, h.dy.cap, fun ad e => ⟨(h.dy.away ad e).1, (h.dy.away ad e).2.1, Nat.lt_of_lt_of_le (h.dy.away ad e).2.2 s.ch.size⟩, d.bel⟩,
    h.lz.apart s.ch h.zx, h.kz, h.oz, h.yx.fresh h.dy.lf.lt (fun p hp => h.dy.lf.rlt hp) s.fr, h.zx.fresh h.lz.lt (fun p hp => h.lz.rlt hp) s.fr, h.zy,
    h.sy.sc s.sc h.dy.lf.lt (fun p hp => h.dy.lf.rlt hp), h.sz.sc s.sc h.lz.lt (fun p hp => h.lz.rlt hp), h.tx.fresh (fun ad e => (h.dy.away ad e).2.2) s.fr, h.tz⟩
theorem S3.y (h : S3 w0 gx gy gz rx ry rz X Y Z A n c A' n' c' w) (d : DS w0 w' gy r2 X2 A2 n2 c2 (flP X2)) (s : Dn w w' gy ry r2 A' A2) : S3 w0 gx gy gz rx r2 rz X X2 Z A n c A2 n2 c2 w' := (h.swap.x d s).swap
theorem DS.off {g g' : Nat} {rb rb' : Nat → Nat} {X Z' : Nat → List Int} {m : List (Int × Int)} (h : DS w0 w g rb X A n c m) (x : Nx w w' g' rb' r2 Z') (a : Ap g rb g' rb') (s : Aw A g' rb') (o : Own w0.heap.size g' rb') : DS w0 w' g rb X A n c m :=
  ⟨h.lf.apart x.ch a, h.ok, h.own, (h.rd.ch x.ch (Nat.le_refl _) s).more x.ch.size, h.len, h.cap, fun ad e => ⟨(h.away ad e).1, (h.away ad e).2.1, Nat.lt_of_lt_of_le (h.away ad e).2.2 x.ch.size⟩, h.bel.trans (x.below o h.bel.size)⟩
theorem S3.z {Z' : Nat → List Int} (h : S3 w0 gx gy gz rx ry rz X Y Z A n c A' n' c' w) (x : Nx w w' gz rz r2 Z') (k : Okk Z') : S3 w0 gx gy gz rx ry r2 X Y Z' A n c A' n' c' w' :=
  ⟨h.dx.off x h.zx.symm h.sz h.oz, h.dy.off x h.zy.symm h.tz h.oz, x.lf, k, x.own h.oz h.dx.bel.size, h.yx,
    (h.zx.symm.fresh h.dx.lf.lt (fun p hp => h.dx.lf.rlt hp) x.fr).symm, (h.zy.symm.fresh h.dy.lf.lt (fun p hp => h.dy.lf.rlt hp) x.fr).symm,
    h.sy, h.sz.fresh (fun ad e => (h.dx.away ad e).2.2) x.fr, h.tx, h.tz.fresh (fun ad e => (h.dy.away ad e).2.2) x.fr⟩
end
/-- The same act on a list that is the same. -/
theorem rr_put {m' : List (Int × Int)} {Z : Nat → List Int} {M T : Int} (h : Rr 0 M T (flP Z) m') : m' = flP (putL Z M T) := by
  rcases h with ⟨_, r, h⟩ | ⟨h, _⟩ | ⟨h, _⟩ | ⟨h, _⟩ | ⟨h, _⟩
  · exact (put_ref h).2
  all_goals omega
theorem rr_front {m' : List (Int × Int)} {Z : Nat → List Int} {M T : Int} (h : Rr 1 M T (flP Z) m') : m' = flP (frontL Z M T) := by
  rcases h with ⟨h, _⟩ | ⟨_, r, h⟩ | ⟨h, _⟩ | ⟨h, _⟩ | ⟨h, _⟩
  · omega
  · exact (front_ref h).2
  all_goals omega
theorem rr_take {m' : List (Int × Int)} {Z Z' : Nat → List Int} {M T x : Int} {ok : Bool} (hk : Okk Z) (h : Rr 2 M T (flP Z) m') (t : Tk Z x ok Z') : m' = flP Z' ∧ Okk Z' := by
  rcases h with ⟨h, _⟩ | ⟨h, _⟩ | ⟨_, h⟩ | ⟨h, _⟩ | ⟨h, _⟩
  · omega
  · omega
  · rcases take_ref hk t with ⟨h1, _, _, h2⟩ | ⟨y, h1, _, _, h3, _⟩
    · rcases h with ⟨_, h⟩ | ⟨y, h⟩
      · rw [h, h2, h1]; exact ⟨rfl, hk⟩
      · rw [h1] at h; cases h
    · rcases h with ⟨h, _⟩ | ⟨y', h⟩
      · rw [h1] at h; cases h
      · rw [h1] at h
        injection h with _ h
        exact ⟨h.symm, h3⟩
  all_goals omega
theorem rr_drop {m' : List (Int × Int)} {Z Z' : Nat → List Int} {M T : Int} {ok : Bool} (hk : Okk Z) (h : Rr 3 M T (flP Z) m') (d : Dp Z M ok Z') : m' = flP Z' ∧ Okk Z' := by
  rcases h with ⟨h, _⟩ | ⟨h, _⟩ | ⟨h, _⟩ | ⟨_, ok', h⟩ | ⟨h, _⟩
  · omega
  · omega
  · omega
  · have := drop_ref hk h d; exact ⟨this.2.1, this.2.2.1⟩
  · omega
theorem rr_change {m' : List (Int × Int)} {Z Z' : Nat → List Int} {M T : Int} {ok : Bool} (hk : Okk Z) (h : Rr 4 M T (flP Z) m') (d : Cg Z M T ok Z') : m' = flP Z' ∧ Okk Z' := by
  rcases h with ⟨h, _⟩ | ⟨h, _⟩ | ⟨h, _⟩ | ⟨h, _⟩ | ⟨_, ok', h⟩
  · omega
  · omega
  · omega
  · omega
  · have := change_ref hk h d; exact ⟨this.2.1, this.2.2.1⟩
end Go.Proofs.Ytbkjcjkbicaibaa
