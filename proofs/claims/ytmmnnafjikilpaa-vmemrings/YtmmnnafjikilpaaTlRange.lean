/- The contracts of oldest and Drop: what goes through the pages that are kept, in whatever order. -/
import Derived.Test.YtmmnnafjikilpaaTlRead
import Derived.LoopTactic
namespace Go.Proofs.Ytmmnnafjikilpaa
open Go.ChangeShapes Go.WideShapes Go.ChangeAt Go.RowKit Go.Maps
set_option linter.unusedVariables false

theorem invK (key : Value) (l : Lit) (h : keyOf Try.prog 127 key = some l) : ∃ x : Int × Int, key = keyV x.1 x.2 := by
  obtain ⟨a, b, h1, _⟩ := keyInv h
  exact ⟨(a, b), h1⟩
theorem invV (v : Value) (y : DataW Unit × List MemPlace) (h : entElem v = some y) : ∃ e : Ent, v = e.val := by
  obtain ⟨e, h1, _⟩ := entElem_inv h
  exact ⟨e, h1⟩

/-- The key in a block of its own. -/
def RowKy (W : World) (X : Nat) (a b : Int) : Prop := W.heap[X]? = some (.cells #[.int .u32 a, .int .u32 b] 127 (0, 0))
theorem RowKy.c0 {W : World} {X : Nat} {p q : Int} (h : RowKy W X p q) : W.cell? ⟨X, 0, none⟩ = some (.int .u32 p) := by rw [cell_at h]; rfl
theorem RowKy.c1 {W : World} {X : Nat} {p q : Int} (h : RowKy W X p q) : W.cell? ⟨X, 1, none⟩ = some (.int .u32 q) := by rw [cell_at h]; rfl
theorem RowKy.fz {W : World} {X : Nat} {p q : Int} (h : RowKy W X p q) (j : Nat) : W.frozen? ⟨X, j, none⟩ = false := frozen_at h
theorem RowKy.lt {W : World} {X : Nat} {p q : Int} (h : RowKy W X p q) : X < W.heap.size := (Array.getElem?_eq_some_iff.1 h).1
theorem RowKy.kp {S : Nat → Prop} {W W' : World} {X : Nat} {p q : Int} (h : RowKy W X p q) (k : Kp S W W') (hS : ¬ S X) : RowKy W' X p q := (k.block X h.lt hS).trans h
theorem RowKy.s0 {W : World} {X : Nat} {p q : Int} (h : RowKy W X p q) (v : Int) : RowKy (W.setCell ⟨X, 0, none⟩ (.int .u32 v)) X v q := heap_setCell_at h _
theorem RowKy.s1 {W : World} {X : Nat} {p q : Int} (h : RowKy W X p q) (v : Int) : RowKy (W.setCell ⟨X, 1, none⟩ (.int .u32 v)) X p v := heap_setCell_at h _

theorem ranges_kp {S : Nat → Prop} {w w' : World} {k : TypeId} {R : Value → Option (DataW Unit × List MemPlace)} {b r n : Nat} {D : DataW Unit} {left : Lit → Bool} {cnt : Nat} (h : w.ranges Try.prog k R b r n D left cnt) (q : Kp S w w') (hb : ¬ S b) (hr : ¬ S r) : w'.ranges Try.prog k R b r n D left cnt := by
  have hlt := h.lt
  have hlb := h.owns.lt
  obtain ⟨es, clock, since, seen, c0, h1, h2, h3, h4, h5, rest⟩ := h
  exact ⟨es, clock, since, seen, c0, (q.block _ hlb hb).trans h1, h2, h3, h4, (q.block _ hlt hr).trans h5, rest⟩

theorem some_key {w : World} {K B pl tn : Nat} {D : DataW Unit} (h : TlbD w K B pl tn D) (hn : 0 < Maps.size D) : ∃ l, Maps.has D l = true := by
  obtain ⟨es, rfl, _, hk⟩ := h.m.entries tlKeyed
  cases es with
  | nil => simp [Maps.size] at hn
  | cons p r => exact ⟨p.1, by rw [Maps.has_eq]; simp [WideAt.sameKey_self (hk p (by simp))]⟩

/-- How far oldest has come. -/
def OldSt (D : DataW Unit) (left : Lit → Bool) (x a b : Int) : Prop :=
  (0 ≤ x ∧ x ≤ 18446744073709551615) ∧ ((x = 18446744073709551615 ∧ left = Maps.has D) ∨ (Maps.has D (kl a b) = true ∧ (0 ≤ a ∧ a < 4294967296 ∧ 0 ≤ b ∧ b < 4294967296)))

def OldRel (w : World) (K X : Nat) (D : DataW Unit) (s : Value) (wr : World) : Prop :=
  ∃ (left : Lit → Bool) (cnt : Nat) (x a b : Int), s = .int .u64 x ∧ wr.ranges Try.prog 127 entElem K (X + 2) 65 D left cnt ∧ RowKy wr X 0 0 ∧ RowKy wr (X + 1) a b ∧ OldSt D left x a b ∧ Kp noB w wr

set_option maxRecDepth 100000 in
set_option maxHeartbeats 2000000 in
theorem oldest_ok (w : World) (K B pl tn : Nat) (D : DataW Unit) (h : TlbD w K B pl tn D) (hn : 0 < Maps.size D) (htn : tn < 18446744073709551615) :
    Calls Try.prog 81 #[.pointer (some ⟨K + 1, 0, none⟩)] w fun e w' => ∃ a b : Int, e = .returned (keyV a b) ∧ Maps.has D (kl a b) = true ∧ (0 ≤ a ∧ a < 4294967296 ∧ 0 ≤ b ∧ b < 4294967296) ∧ Kp noB w w' := by
  obtain ⟨X, hX⟩ : ∃ X, w.heap.size = X := ⟨_, rfl⟩
  have HX : Hid (w.heap.size = X) := hX
  obtain ⟨W0, hW0⟩ : ∃ W, W = (w.alloc (.cells #[.int .u32 0, .int .u32 0] 127)).alloc (.cells #[.int .u32 0, .int .u32 0] 127) := ⟨_, rfl⟩
  have k0 : Kp noB w W0 := by rw [hW0]; exact (Kp.alloc _ _ _).trans (Kp.alloc _ _ _)
  have r0 : RowKy W0 X 0 0 := by
    rw [hW0]
    have e0 := (MapKept.heap_alloc w (.cells #[.int .u32 0, .int .u32 0] 127)).1
    rw [hX] at e0
    exact (Below.heap_alloc _ _ _ (by simp; omega)).trans e0
  have hs0 : W0.heap.size = X + 2 := by rw [hW0]; simp [hX]
  have r1 : RowKy W0 (X + 1) 0 0 := by
    rw [hW0]
    have e0 := (MapKept.heap_alloc (w.alloc (.cells #[.int .u32 0, .int .u32 0] 127)) (.cells #[.int .u32 0, .int .u32 0] 127)).1
    have e1 : (w.alloc (.cells #[.int .u32 0, .int .u32 0] 127)).heap.size = X + 1 := by simp [hX]
    rw [e1] at e0
    exact e0
  have t0 : TlbD W0 K B pl tn D := h.kp k0 (fun _ _ f => f)
  have c2 := t0.c2
  have hown := t0.m
  go_enter Try.func81, Try.ntmps81
  go_upto_region 3 with fail
  rw [← hW0]
  have hgood := h.g.good
  have HN : Hid (∃ l, Maps.has D l = true) := some_key h hn
  have hK := h.lt
  have hKX : K + 1 < X := by rw [← hX]; exact hK
  clear hW0 hX h t0 hK
  go_wp2_with (first
    | (at_range; refine wpList_range_own _ rfl _ 108 rfl 127 148 tlKeyed keptT _ K 65 D rfl hown ?_; intro w0 hrg0 hg0 hs1)
    | go_in)
  rw [hs0] at hrg0 ⊢
  go_frame
  have kg : Kp noB W0 w0 := Kp.grownBy hg0 (fun b hb => by cases hb)
  go_loopw [4] (fun s wr => OldRel w K X D s wr) (fun _ wr => wr.rangeLeft K (X + 2))
  case atStart => exact ⟨_, _, 18446744073709551615, 0, 0, rfl, hrg0, r0.kp kg (fun f => f), r1.kp kg (fun f => f), ⟨by omega, .inl ⟨rfl, rfl⟩⟩, k0.trans kg⟩
  case round =>
    obtain ⟨left, cnt, x, a, b, rfl, hrg, q0, q1, hst, kk⟩ := hrel
    clear hrg0 hg0 hs1 kg r0 r1 c2 hown k0
    have HG : Hid (∀ (a b : Int) (e : Ent) (y : DataW Unit × List MemPlace), entElem e.val = some y → (∀ z, D.atKey (kl a b) z = y.1) → (0 ≤ a ∧ a < 4294967296 ∧ 0 ≤ b ∧ b < 4294967296) → Maps.has D (kl a b) = true ∧ 0 ≤ e.tn ∧ e.tn < 18446744073709551615) := fun a b e y h1 h2 h3 => by
      have hh : Maps.has D (kl a b) = true := has_true_of_atKey h2
      obtain ⟨e', g1, _, g2, g3⟩ := hgood a b hh h3
      rw [entElem_mk] at h1
      have e1 : y = (e.dat, []) := (Option.some.inj h1).symm
      have e2 : e.dat = e'.dat := by rw [← g1 (.lit (.bool true)), h2, e1]
      rw [dat_inj e2]
      exact ⟨hh, g2, by omega⟩
    obtain ⟨⟨x0, x1⟩, hst⟩ := hst
    have HST := hst
    clear hgood hst
    go_wp2_with (first
      | (at_next; refine wpList_next_ranges _ rfl _ rfl 127 tlKeyed entElem (fun x : Int × Int => keyV x.1 x.2) Ent.val invK invV K (X + 2) 65 D left cnt rfl hrg ?_ ?_)
      | go_in)
    · intro hc hl
      have hfin : Maps.has D (kl a b) = true ∧ (0 ≤ a ∧ a < 4294967296 ∧ 0 ≤ b ∧ b < 4294967296) := by
        rcases HST with ⟨_, e⟩ | e
        · obtain ⟨l, hl'⟩ := HN.out
          rw [← e, hl l] at hl'
          cases hl'
        · exact e
      clear HST HG HN hrg
      have d0 := q1.c0; have d1 := q1.c1
      have g0 := q0.c0; have g1 := q0.c1
      have f0 := q0.fz 0; have f1 := q0.fz 1
      have z0 := q0.s0 a
      have z1 := z0.s1 b
      go_wp2
      refine bodyPost_ret (v := keyV a b) ?_ rfl ⟨a, b, rfl, hfin.1, hfin.2, ?_⟩
      · simp [results, Try.results81, go_sem, keyV, z0.c0, z1.c1]
      · exact (kk.own' (by have := HX.out; omega) _).own' (by have := HX.out; omega) _
    · intro y1 y2 e kl' yd yp w1 cnt1 hkey hlk hR hat hrg1 hlt hg1 hs1 hen
      obtain ⟨a', b', hv, hb, rfl⟩ := keyInv hkey
      have hab : y1 = a' ∧ y2 = b' := by unfold keyV at hv; simpa using hv
      obtain ⟨rfl, rfl⟩ := hab
      obtain ⟨hh, t0, t1⟩ := HG.out _ _ e (yd, yp) hR hat hb
      obtain ⟨fr, p, q, bw, bu, o, t, en⟩ := e
      simp only at t0 t1
      unfold keyV Ent.val at hen ⊢
      simp only at hen ⊢
      clear hv hR hat hkey HG
      have HM : Hid (wr.rangeLeft K (X + 2) = cnt) := hrg.left_eq
      have k1 : Kp (fun j => j = X + 2) wr w1 := Kp.grownBy hg1 (fun b hb => by cases hb; rfl)
      replace kk : Kp noB w w1 := kk.over k1 (fun j hj e => by have := HX.out; omega)
      replace q0 := q0.kp k1 (by omega)
      replace q1 := q1.kp k1 (by omega)
      have hZ : X + 2 < wr.heap.size := hrg.lt
      clear hrg k1 hg1 hlk
      go_upto_region 6 with fail
      obtain ⟨W5, hW5⟩ : ∃ W, W = (w1.alloc (.cells #[.int .u32 y1, .int .u32 y2] 127)).alloc (.cells #[.int .u32 fr, .int .u32 p, .int .u32 q, .bool bw, .bool bu, .int .u32 o, .int .u32 t, .int .u64 en] 148) := ⟨_, rfl⟩
      rw [← hW5]
      have k5 : Kp noB w1 W5 := by rw [hW5]; exact (Kp.alloc _ _ _).trans (Kp.alloc _ _ _)
      obtain ⟨Z, hZe⟩ : ∃ Z, Z = wr.heap.size := ⟨_, rfl⟩
      have rY : RowKy W5 Z y1 y2 := by
        rw [hW5, hZe, ← hs1]
        exact (Below.heap_alloc _ _ _ (by simp)).trans (MapKept.heap_alloc w1 _).1
      have rE : W5.cell? ⟨Z + 1, 7, none⟩ = some (.int .u64 en) := by
        rw [hW5, hZe, ← hs1]
        have e0 := (MapKept.heap_alloc (w1.alloc (.cells #[.int .u32 y1, .int .u32 y2] 127)) (.cells #[.int .u32 fr, .int .u32 p, .int .u32 q, .bool bw, .bool bu, .int .u32 o, .int .u32 t, .int .u64 en] 148)).1
        have e1 : (w1.alloc (.cells #[.int .u32 y1, .int .u32 y2] 127)).heap.size = w1.heap.size + 1 := by simp
        rw [e1] at e0
        rw [cell_at e0]; rfl
      rw [← hZe] at hZ ⊢
      replace hrg1 := ranges_kp hrg1 k5 (fun f => f) (fun f => f)
      replace q0 := q0.kp k5 (fun f => f)
      replace q1 := q1.kp k5 (fun f => f)
      replace kk := kk.trans k5
      clear k5 hW5 hen hs1 hZe
      have d0 := rY.c0; have d1 := rY.c1
      by_cases hlt2 : en < x
      · have hd : decide (en < x) = true := decide_eq_true hlt2
        have g0 := q1.c0; have g1 := q1.c1
        have f0 := q1.fz 0; have f1 := q1.fz 1
        have z1 := (q1.s0 y1).s1 y2
        have kz : Kp (fun j => j = X + 1) W5 ((W5.setCell ⟨X + 1, 0, none⟩ (.int .u32 y1)).setCell ⟨X + 1, 1, none⟩ (.int .u32 y2)) := (Kp.setCell (S := fun j => j = X + 1) W5 (p := ⟨X + 1, 0, none⟩) rfl _).trans (Kp.setCell (S := fun j => j = X + 1) _ (p := ⟨X + 1, 1, none⟩) rfl _)
        go_wp2
        go_region
        go_wp2
        go_roundw
        case rel => exact ⟨_, cnt1, en, y1, y2, rfl, ranges_kp hrg1 kz.drew (by omega) (by omega), q0.kp kz.drew (by omega), z1, ⟨by omega, .inr ⟨hh, hb⟩⟩, kk.over kz.drew (fun j hj e => by have := HX.out; omega)⟩
        case measure => rw [(ranges_kp hrg1 kz.drew (by omega) (by omega)).left_eq, HM.out]; exact hlt
      · have hd : decide (en < x) = false := decide_eq_false hlt2
        go_wp2
        go_roundw
        case rel =>
          refine ⟨_, cnt1, x, a, b, rfl, hrg1, q0, q1, ⟨by omega, ?_⟩, kk⟩
          rcases HST with ⟨e1, _⟩ | e
          · omega
          · exact .inr e
        case measure => rw [hrg1.left_eq, HM.out]; exact hlt

/-- How far Drop has come. -/
def DropRel (w : World) (K B pl tn X : Nat) (D : DataW Unit) (wr : World) : Prop :=
  ∃ (D' : DataW Unit) (left : Lit → Bool) (cnt : Nat), wr.ranges Try.prog 127 entElem K X 65 D' left cnt ∧ TlbD wr K B pl tn D' ∧ Maps.size D' ≤ Maps.size D ∧ Kp (fun j => j = K) w wr

theorem tlDrop_nil (w : World) (l : Int) : Calls Try.prog 45 #[.pointer none, .int .u32 l] w fun e w' => e = .returned (.tuple #[]) ∧ w' = w := by
  go_enter Try.func45, Try.ntmps45
  go_wp2
  exact bodyPost_ret (v := .tuple #[]) (by simp [results, Try.results45]) rfl ⟨rfl, rfl⟩

set_option maxRecDepth 100000 in
set_option maxHeartbeats 2000000 in
theorem tlDrop_ok (w : World) (K B pl tn : Nat) (D : DataW Unit) (h : TlbD w K B pl tn D) (l : Int) (l0 : 0 ≤ l) (l1 : l < 4294967296) :
    Calls Try.prog 45 #[.pointer (some ⟨K + 1, 0, none⟩), .int .u32 l] w fun e w' => e = .returned (.tuple #[]) ∧ (∃ D', TlbD w' K B pl tn D' ∧ Maps.size D' ≤ Maps.size D) ∧ Kp (fun j => j = K) w w' := by
  obtain ⟨X, hX⟩ : ∃ X, w.heap.size = X := ⟨_, rfl⟩
  have HX : Hid (w.heap.size = X) := hX
  have c2 := h.c2
  have hown := h.m
  have hnl := not4095 l0 l1
  have hK := h.lt
  rw [hX] at hK
  go_enter Try.func45, Try.ntmps45
  go_wp2_with (first
    | (at_range; refine wpList_range_own _ rfl _ 108 rfl 127 148 tlKeyed keptT _ K 65 D rfl hown ?_; intro w0 hrg0 hg0 hs1)
    | go_in)
  rw [HX.out] at hrg0
  try rw [HX.out]
  go_frame
  have kg : Kp noB w w0 := Kp.grownBy hg0 (fun b hb => by cases hb)
  go_loopw [4] (fun _ wr => DropRel w K B pl tn X D wr) (fun _ wr => wr.rangeLeft K X)
  case atStart => exact ⟨D, _, _, hrg0, h.kp kg (fun _ _ f => f), Nat.le_refl _, kg.mono (fun _ _ f => f.elim)⟩
  case round =>
    obtain ⟨D', left, cnt, hrg, ht, hsz, kk⟩ := hrel
    clear hrg0 hg0 hs1 kg c2 hown h hX
    go_wp2_with (first
      | (at_next; refine wpList_next_ranges _ rfl _ rfl 127 tlKeyed entElem (fun x : Int × Int => keyV x.1 x.2) Ent.val invK invV K X 65 D' left cnt rfl hrg ?_ ?_)
      | go_in)
    · intro hc hl
      go_wp2
      go_end0
      exact ⟨rfl, ⟨D', ht, hsz⟩, kk⟩
    · intro y1 y2 e kl' yd yp w1 cnt1 hkey hlk hR hat hrg1 hlt hg1 hs1 hen
      obtain ⟨a', b', hv, hb, rfl⟩ := keyInv hkey
      have hab : y1 = a' ∧ y2 = b' := by unfold keyV at hv; simpa using hv
      obtain ⟨rfl, rfl⟩ := hab
      have hkK := keyK hb.1 hb.2.1 hb.2.2.1 hb.2.2.2
      unfold keyV at hen hkK ⊢
      clear hv hR hat hkey
      have HM : Hid (wr.rangeLeft K X = cnt) := hrg.left_eq
      have k1 : Kp (fun j => j = X) wr w1 := Kp.grownBy hg1 (fun b hb => by cases hb; rfl)
      replace kk : Kp (fun j => j = K) w w1 := kk.over k1 (fun j hj e => by have := HX.out; omega)
      replace ht := ht.kp k1 (fun j hj e => by rcases hj with f | f <;> omega)
      clear hrg k1 hg1 hlk
      go_upto_region 4 with fail
      obtain ⟨W5, hW5⟩ : ∃ W, W = w1.alloc (.cells #[.int .u32 y1, .int .u32 y2] 127) := ⟨_, rfl⟩
      rw [← hW5]
      have k5 : Kp noB w1 W5 := by rw [hW5]; exact Kp.alloc _ _ _
      obtain ⟨Z, hZe⟩ : ∃ Z, Z = wr.heap.size := ⟨_, rfl⟩
      have rY : RowKy W5 Z y1 y2 := by
        rw [hW5, hZe, ← hs1]
        exact (MapKept.heap_alloc w1 _).1
      rw [← hZe]
      replace hrg1 := ranges_kp hrg1 k5 (fun f => f) (fun f => f)
      replace ht := ht.kp k5 (fun _ _ f => f)
      replace kk := kk.over k5 (fun _ _ f => f.elim)
      clear k5 hW5 hen hs1 hZe
      have d0 := rY.c0; have d1 := rY.c1
      have c2 := ht.c2
      have hrgD : W5.drew.ranges Try.prog 127 entElem K X 65 D' (fun z => left z && !z.sameKey (kl y1 y2)) cnt1 := hrg1
      obtain ⟨w2, cnt2, hrun, hrg2, hle, hturn⟩ := hrgD.drop tlKeyed keptT hkK 0
      by_cases heq : y2 = l - l % 4096
      · have hd : (y2 == l - l % 4096) = true := by simpa using heq
        clear heq
        go_wp2
        go_region
        go_wp2
        rw [strike_twice] at hrg2
        have ht2 : TlbD w2 K B pl tn (D'.del (kl y1 y2)) := (show TlbD W5.drew K B pl tn D' from ht.kept (fun _ _ => rfl)).turned hturn hrg2.owns (ht.g.del ht.tidy _)
        have hs2 := size_del (k := kl y1 y2) ht.tidy
        go_roundw
        case rel => exact ⟨_, _, cnt2, hrg2, ht2, by omega, kk.trans ((Kp.refl _ W5).drew.trans (Kp.turned hturn rfl))⟩
        case measure => rw [hrg2.left_eq, HM.out]; omega
      · have hd : (y2 == l - l % 4096) = false := by simpa using heq
        clear hrun hrg2 hle hturn hrgD
        go_wp2
        go_roundw
        case rel => exact ⟨D', _, cnt1, hrg1, ht, hsz, kk⟩
        case measure => rw [hrg1.left_eq, HM.out]; exact hlt
end Go.Proofs.Ytmmnnafjikilpaa
