/-
  Same and Clone of tables. Each statement bears its own conditions.
-/
import Derived.Test.YtdabmbdikofhpaaPrS
namespace Go.Proofs.Ytdabmbdikofhpaa.P
open Go.RowKit
set_option linter.unusedVariables false
set_option linter.unusedSimpArgs false
def sameL : List MP → List MP → Bool
  | [], [] => true
  | x :: a, y :: b => eqP x y && sameL a b
  | _, _ => false
theorem sameL_iff : ∀ {a b : List MP}, sameL a b = true ↔ a = b
  | [], [] => by simp [sameL]
  | [], y :: b => by simp [sameL]
  | x :: a, [] => by simp [sameL]
  | x :: a, y :: b => by simp only [sameL, Bool.and_eq_true, eqP_iff, sameL_iff, List.cons.injEq]
theorem sameL_len {a b : List MP} (h : a.length ≠ b.length) : sameL a b = false := by
  rw [Bool.eq_false_iff]
  exact fun hq => h (by rw [sameL_iff.1 hq])
theorem sameL_step {a b : List MP} {k : Nat} {x y : MP} (hx : a[k]? = some x) (hy : b[k]? = some y) : sameL (a.drop k) (b.drop k) = (eqP x y && sameL (a.drop (k + 1)) (b.drop (k + 1))) := by
  rw [drop_cons hx, drop_cons hy]; rfl
structure EqRel (n : Nat) (l l' : List MP) (w : World) (v : Value) (wr : World) : Prop where
  ex : ∃ k : Nat, k ≤ n ∧ v = .int .i64 (k : Int) ∧ sameL l l' = sameL (l.drop k) (l'.drop k) ∧ ∃ nq, wr = w.drewN nq
theorem At.drawn {w : World} {b o : Nat} {x : MP} (h : At w b o x) (n : Nat) : At (w.drewN n) b o x := ⟨h.lt, h.ex⟩
theorem drawn_twice (w : World) (a b : Nat) : ∃ n, (w.drewN a).drewN b = w.drewN n := ⟨a + b, by rw [World.drewN_drewN]⟩
set_option maxRecDepth 100000 in
set_option maxHeartbeats 8000000 in
theorem equalP_any (rb rb' n n' cap cap' : Nat) (l l' : List MP) (w : World) (hn : l.length = n) (hn' : l'.length = n') (h1 : ∀ (i : Nat) x, l[i]? = some x → At w rb (i * 13) x) (h2 : ∀ (i : Nat) x, l'[i]? = some x → At w rb' (i * 13) x) (hl : n ≤ 16) (hl' : n' ≤ 16) :
    Calls Try.prog 36 #[.slice (some ⟨rb, 0, none⟩) n cap, .slice (some ⟨rb', 0, none⟩) n' cap'] w fun e w' => e = .returned (.bool (sameL l l')) ∧ ∃ m, w' = w.drewN m := by
  have HN := Lib.hid hn
  have HN' := Lib.hid hn'
  have H1 := Lib.hid h1
  have H2 := Lib.hid h2
  clear hn hn' h1 h2
  by_cases hnn : n = n'
  · subst hnn
    go_enter Try.func36, Try.ntmps36
    go_wp2_with fail
    go_loopw [13] (fun v wr => EqRel n l l' w v wr) (fun v => fun _ => n - (intOf v).toNat)
    case atStart => exact ⟨⟨0, Nat.zero_le _, rfl, rfl, 0, rfl⟩⟩
    case round =>
      obtain ⟨⟨k, hk, rfl, hs, mq, rfl⟩⟩ := hrel
      have HK := Lib.hid hk
      have HS := Lib.hid hs
      by_cases hlt : k < n
      · have hkI : (k : Int) < (n : Int) := by omega
        have HX : Hid (k < n) := hlt
        have hx0 : l[k]? = some (l[k]'(by have := HN.out; omega)) := List.getElem?_eq_getElem _
        have hy0 : l'[k]? = some (l'[k]'(by have := HN'.out; omega)) := List.getElem?_eq_getElem _
        generalize l[k]'(by have := HN.out; omega) = x at hx0
        generalize l'[k]'(by have := HN'.out; omega) = y at hy0
        have hax := (H1.out k x hx0).drawn mq
        have hay := (H2.out k y hy0).drawn mq
        have HST := Lib.hid (sameL_step hx0 hy0)
        obtain ⟨x0, x1, x2, x3, x4, x5, x6, x7, x8, x9, x10, x11, x12⟩ := x
        obtain ⟨y0, y1, y2, y3, y4, y5, y6, y7, y8, y9, y10, y11, y12⟩ := y
        have c0 := hax.ex 0 _ rfl
        have d0 := hay.ex 0 _ rfl
        have c1 := hax.ex 1 _ rfl
        have d1 := hay.ex 1 _ rfl
        have c2 := hax.ex 2 _ rfl
        have d2 := hay.ex 2 _ rfl
        have c3 := hax.ex 3 _ rfl
        have d3 := hay.ex 3 _ rfl
        have c4 := hax.ex 4 _ rfl
        have d4 := hay.ex 4 _ rfl
        have c5 := hax.ex 5 _ rfl
        have d5 := hay.ex 5 _ rfl
        have c6 := hax.ex 6 _ rfl
        have d6 := hay.ex 6 _ rfl
        have c7 := hax.ex 7 _ rfl
        have d7 := hay.ex 7 _ rfl
        have c8 := hax.ex 8 _ rfl
        have d8 := hay.ex 8 _ rfl
        have c9 := hax.ex 9 _ rfl
        have d9 := hay.ex 9 _ rfl
        have c10 := hax.ex 10 _ rfl
        have d10 := hay.ex 10 _ rfl
        have c11 := hax.ex 11 _ rfl
        have d11 := hay.ex 11 _ rfl
        have c12 := hax.ex 12 _ rfl
        have d12 := hay.ex 12 _ rfl
        rw [Nat.add_zero] at c0 d0
        obtain ⟨t, ht⟩ : ∃ t, eqP ⟨x0, x1, x2, x3, x4, x5, x6, x7, x8, x9, x10, x11, x12⟩ ⟨y0, y1, y2, y3, y4, y5, y6, y7, y8, y9, y10, y11, y12⟩ = t := ⟨_, rfl⟩
        have hne := fun W : World => neq_proc W x0 x1 x2 x3 x4 x5 x6 x7 x8 x9 x10 x11 x12 y0 y1 y2 y3 y4 y5 y6 y7 y8 y9 y10 y11 y12
        rw [ht] at hne HST
        clear hx0 hy0 hax hay ht hs hk hlt
        generalize hW : w.drewN mq = W at c0 c1 c2 c3 c4 c5 c6 c7 c8 c9 c10 c11 c12 d0 d1 d2 d3 d4 d5 d6 d7 d8 d9 d10 d11 d12 ⊢
        have HW := Lib.hid hW
        clear hW
        cases t with
        | true =>
          go_wp2_with fail
          go_quiet (fail)
          go_wp2_with fail
          go_roundw
          case rel =>
            have Q : EqRel n l l' w (.int .i64 ((k : Int) + 1)) (W.drewN nq) := ⟨⟨k + 1, HX.out, by go_num, by rw [HS.out, HST.out]; rfl, by rw [← HW.out]; exact drawn_twice _ _ _⟩⟩
            first | exact Q | ((repeat apply Exists.intro); exact ⟨Q, rfl⟩)
          case measure => have := HX.out; simp [intOf]; omega
        | false =>
          go_wp2_with fail
          go_quiet (fail)
          go_wp2_with fail
          go_ret
          exact ⟨bool_ret (by rw [HS.out, HST.out]; rfl), by rw [← HW.out]; exact drawn_twice _ _ _⟩
      · have hkn : k = n := by omega
        subst hkn
        clear hlt hk hs
        go_wp2_with fail
        go_ret
        refine ⟨bool_ret ?_, _, rfl⟩
        rw [HS.out, List.drop_of_length_le (Nat.le_of_eq HN.out), List.drop_of_length_le (Nat.le_of_eq HN'.out)]
        rfl
  · have hd : ((n : Int) != (n' : Int)) = true := by simp; omega
    go_enter Try.func36, Try.ntmps36
    go_wp2_with fail
    go_ret
    exact ⟨bool_ret (sameL_len (by rw [HN.out, HN'.out]; exact hnn)).symm, 0, rfl⟩
set_option maxRecDepth 100000 in
set_option maxHeartbeats 4000000 in
theorem same_any (lo hi p rb lo' hi' p' rb' : Nat) (l l' : List MP) (w : World) (h : PT lo hi w p rb l) (h' : PT lo' hi' w p' rb' l') (hl : l.length ≤ 16) (hl' : l'.length ≤ 16) :
    Calls Try.prog 12 #[.pointer (some ⟨p, 0, none⟩), .pointer (some ⟨p', 0, none⟩)] w fun e w' => e = .returned (.bool (sameL l l')) ∧ ∃ m, w' = w.drewN m := by
  obtain ⟨cap, hc, _⟩ := RT.cell h
  obtain ⟨cap', hc', _⟩ := RT.cell h'
  rw [List.length_map] at hc hc'
  have CQ := Lib.hid fun (q : Nat) => equalP_any rb rb' l.length l'.length cap cap' l l' (w.drewN q) rfl rfl (fun i x hx => (PT.at_ h hx).drawn q) (fun i x hx => (PT.at_ h' hx).drawn q) hl hl'
  obtain ⟨n, hn⟩ : ∃ n, l.length = n := ⟨_, rfl⟩
  obtain ⟨n', hn'⟩ : ∃ n, l'.length = n := ⟨_, rfl⟩
  rw [hn] at hc CQ
  rw [hn'] at hc' CQ
  clear h h' hl hl' hn hn'
  go_enter Try.func12, Try.ntmps12
  go_wp2_with fail
  go_quiet ((go_at_call 36; exact Calls.quiet_of (CQ.out _)))
  go_wp2_with fail
  go_ret
  exact ⟨rfl, _, rfl⟩
theorem pinfo' : (Try.prog.info? 73).map (fun i => (i.zero, i.size, i.bytes)) = some (some (.agg #[.int .i64 0, .int .i64 0, .int .i64 0, .int .i64 0, .int .i64 0, .int .i64 0, .bool false, .int .i64 0, .int .i64 0, .int .i64 0, .int .i64 0, .int .i64 0, .bool false]), 13, 104) := by kernel_rfl
theorem info_of3 {e : TypeId} {z : Option Value} {k b : Nat} (h : (Try.prog.info? e).map (fun i => (i.zero, i.size, i.bytes)) = some (z, k, b)) : ∃ i, Try.prog.info? e = some i ∧ i.zero = z ∧ i.size = k ∧ i.bytes = b := by
  rcases hq : Try.prog.info? e with _ | i
  · rw [hq] at h; cases h
  · rw [hq] at h
    simp at h
    exact ⟨i, rfl, h.1, h.2.1, h.2.2⟩
set_option maxRecDepth 100000 in
set_option maxHeartbeats 4000000 in
theorem pclone_any (rb n cap : Nat) (l : List MP) (w : World) (hn : l.length = n) (h1 : ∀ (i : Nat) x, l[i]? = some x → At w rb (i * 13) x) (hr : rb < w.heap.size) (hlen : n ≤ 16) :
    Calls Try.prog 35 #[.slice (some ⟨rb, 0, none⟩) n cap] w fun e w' => (∃ k c, e = .returned (.slice (some ⟨k, 0, none⟩) n c) ∧ w'.ownsRow w.heap.size 73 13 (.slice (some ⟨k, 0, none⟩) n c) n (CP l)) ∧ Below w.heap.size w w' := by
  obtain ⟨i0, hi, hz0, hz1, hz2⟩ := info_of3 pinfo'
  have RD : Hid (Reads w w.heap.size 13 (some ⟨rb, 0, none⟩) n (CP l)) := by
    refine ⟨by rw [CP_len, hn], fun hp => ⟨_, rfl, hr, fun j u hu => ?_⟩⟩
    rw [Addr.add_lit, Nat.zero_add]
    have hj : j < n * 13 := by have := (List.getElem?_eq_some_iff.1 hu).1; rw [CP_len, hn] at this; exact this
    have hx : l[j / 13]? = some (l[j / 13]'(by omega)) := List.getElem?_eq_getElem _
    have hm : j % 13 < 13 := Nat.mod_lt _ (by omega)
    have hc : (l[j / 13]'(by omega)).cells[j % 13]? = some ((l[j / 13]'(by omega)).cells[j % 13]'(by rw [MP.cells_len]; exact hm)) := List.getElem?_eq_getElem _
    have h2 := CP_at hx _ _ hc
    have h3 := (h1 _ _ hx).ex _ _ hc
    have h4 : j / 13 * 13 + j % 13 = j := by omega
    rw [h4] at h2 h3
    rw [h2] at hu
    injection hu with hu
    subst hu
    exact h3
  have HL := Lib.hid hlen
  have he : ∀ w : World, (binOp .eql 66 (.slice (some ⟨rb, 0, none⟩) n cap) (.slice none 0 0)).run Try.prog w = .ok (.bool false) w := fun _ => rfl
  clear h1 hlen hn hr
  go_enter Try.func35, Try.ntmps35
  go_wp2_with (at_builtin; refine wpList_append_any _ rfl (.tmp 5) (.tmp 6) _ rfl w.heap.size 73 i0 _ 13 104 Try.underlying66 hi hz0 hz1 hz2 rfl (by omega) (.slice (some ⟨w.heap.size, 0, none⟩) 0 0) 0 [] rfl ⟨rfl, .inr ⟨w.heap.size, 0, #[], rfl, Nat.le_refl _, heap_alloc_new w _, Nat.le_refl _, by unfold maxLen; omega, rfl, rfl⟩⟩ w.heap.size (some ⟨rb, 0, none⟩) n cap (CP l) rfl (RD.out.alloc (Nat.le_refl _) _) (CP_one l) ?c2 ?c3 ?c4 ?_)
  case c2 => have := HL.out; unfold maxLen; omega
  case c3 => have := HL.out; omega
  case c4 => simp
  intro v2 w2 ho hgr hbl
  have ho' : w2.ownsRow w.heap.size 73 13 v2 n (CP l) := by simpa using ho
  have hbel : Hid (Below w.heap.size w w2) := ((Below.refl _ _).alloc (Nat.le_refl _) _).grown hgr (by simp) (fun q hq => by have h' : some w.heap.size = some q := hq; injection h' with h'; omega)
  obtain ⟨k, c, rfl⟩ : ∃ k c, v2 = .slice (some ⟨k, 0, none⟩) n c := by
    rcases ho'.2 with ⟨rfl, _⟩ | ⟨g', cap', cur, hv, _⟩
    · rcases hbl with h | h <;> cases h
    · exact ⟨g', cap', hv⟩
  have HO := Lib.hid ho'
  clear ho ho' hgr hbl
  go_wp2_with fail
  go_ret
  exact ⟨⟨k, c, rfl, HO.out⟩, hbel.out⟩
set_option maxRecDepth 100000 in
set_option maxHeartbeats 4000000 in
theorem clone_any (lo hi p rb : Nat) (l : List MP) (w : World) (h : PT lo hi w p rb l) (hl : l.length ≤ 16) :
    Calls Try.prog 11 #[.pointer (some ⟨p, 0, none⟩)] w fun e w' => (∃ p' rb', e = .returned (.pointer (some ⟨p', 0, none⟩)) ∧ PT w.heap.size w'.heap.size w' p' rb' l) ∧ Below w.heap.size w w' := by
  obtain ⟨cap, hc, _⟩ := RT.cell h
  rw [List.length_map] at hc
  have CC := Lib.hid (pclone_any rb l.length cap l w rfl (fun i x hx => PT.at_ h hx) (PT.lt h).2.1 hl)
  have HL : Hid (∀ n, l.length = n → (l.map MP.cells).length = n) := fun n hn => by simpa using hn
  obtain ⟨n, hn⟩ : ∃ n, l.length = n := ⟨_, rfl⟩
  have HN := Lib.hid hn
  rw [hn] at hc CC
  clear h hl hn
  go_enter Try.func11, Try.ntmps11
  go_wp2_with fail
  refine CC.out.mono ?_
  rintro e W1 ⟨⟨k, c, rfl, ho⟩, b1⟩
  have HO := Lib.hid ho
  have HB := Lib.hid b1
  clear ho b1 CC
  go_wp2_with fail
  go_ret
  have hk := HO.out.lt k rfl
  have e1 : (l.map MP.cells).length = n := HL.out n HN.out
  refine ⟨⟨W1.heap.size, k, rfl, ?_⟩, HB.out.alloc HB.out.size _⟩
  refine ⟨Nat.le_refl _, ⟨HB.out.size, by simp⟩, ⟨hk.1, by simp; omega⟩, by omega, map_13 l, c, ?_, ?_⟩
  · rw [e1]; exact heap_alloc_new _ _
  · rw [e1]; exact own_below HO.out ((Below.refl _ _).alloc (Nat.le_refl _) _)
end Go.Proofs.Ytdabmbdikofhpaa.P
