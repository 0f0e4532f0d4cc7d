/- The document's Places: where the bytes of a value lie. -/
import Derived.Test.YtmmnnafjikilpaaGreatVpLeaf
import Derived.Test.YtmmnnafjikilpaaGreatOrdS
import Derived.Maps.AppendAt
import Derived.OwnWalk
import Derived.Deep.LoopGhost
import Derived.Deep.Cut
import Derived.Deep.RegionHeld3
namespace Go.Proofs.YtmmnnafjikilpaaGreat
open Go.ChangeShapes Go.WideShapes Go.ChangeAt Go.RowKit Go.Maps
set_option linter.unusedVariables false
set_option maxRecDepth 20000

theorem info32U : (Tryz.prog.info? 24).map (fun i => (i.zero, i.size, i.bytes)) = some (some (.int .u32 0), 1, 4) := by kernel_rfl
theorem slice32U : Tryz.prog.underlying 113 = some (.slice 24) := by kernel_rfl

def fromU (n b : Nat) : Prop := n ≤ b
def OwnU (w : World) (base : Nat) (v : Value) (l : List Int) : Prop := w.ownsRow base 24 1 v l.length (l.map (Value.int .u32))
theorem OwnU.kp {S : Nat → Prop} {w w' : World} {base : Nat} {v : Value} {l : List Int} (h : OwnU w base v l) (k : Kp S w w') (hS : ∀ b, base ≤ b → ¬ S b) : OwnU w' base v l := by
  refine ⟨h.1, ?_⟩
  rcases h.2 with h1 | ⟨g, cap, cur, h1, hb, hg, r⟩
  · exact .inl h1
  · exact .inr ⟨g, cap, cur, h1, hb, (k.block g (Array.getElem?_eq_some_iff.1 hg).1 (hS g hb)).trans hg, r⟩
theorem kp_grownU {w w' : World} {base e size n : Nat} {v : Value} {xs : List Value} (h : w.ownsRow base e size v n xs) (g : w.grownBy w' v.ownBlock) : Kp (fromU base) w w' :=
  ⟨g.os, g.tape, g.output, g.size, fun k hk hs => g.block k hk (fun e => by
    rcases h.2 with ⟨h1, _⟩ | ⟨b, cap, cur, h1, hb, _⟩
    · rw [h1] at e; simp [Value.ownBlock] at e
    · rw [h1] at e; simp [Value.ownBlock] at e; subst e; exact hs hb)⟩
/-- The numbers as they are read. -/
def PlA (w : World) (base : Nat) (v : Value) (n : Nat) (f : Nat → Int) : Prop := ∃ g cap, v = .slice (some ⟨g, 0, none⟩) n cap ∧ base ≤ g ∧ g < w.heap.size ∧ ∀ j, j < n → w.cell? ⟨g, j, none⟩ = some (.int .u32 (f j))
theorem OwnU.pl {w : World} {base : Nat} {v : Value} {l : List Int} (h : OwnU w base v l) (h0 : l.length ≠ 0) : PlA w base v l.length (fun j => l.getD j 0) := by
  rcases h.2 with ⟨e, h2⟩ | ⟨g, cap, cur, rfl, hb, hg, hc, hm, hsz, ht⟩
  · exfalso; omega
  · refine ⟨g, cap, rfl, hb, (Array.getElem?_eq_some_iff.1 hg).1, fun j hj => ?_⟩
    rw [cell_at hg]
    have e := congrArg (fun L : List Value => L[j]?) ht
    simp only [Nat.mul_one] at e
    rw [List.getElem?_take_of_lt hj, List.getElem?_map, List.getElem?_eq_getElem hj] at e
    show cur[j]? = _
    rw [← Array.getElem?_toList, e]
    show some (Value.int .u32 l[j]) = some (.int .u32 (l.getD j 0))
    rw [List.getD_eq_getElem?_getD, List.getElem?_eq_getElem hj]
    rfl
theorem PlA.kp {S : Nat → Prop} {w w' : World} {base : Nat} {v : Value} {n : Nat} {f : Nat → Int} (h : PlA w base v n f) (k : Kp S w w') (hS : ∀ b, base ≤ b → ¬ S b) : PlA w' base v n f := by
  obtain ⟨g, cap, e, hb, hl, hc⟩ := h
  exact ⟨g, cap, e, hb, Nat.lt_of_lt_of_le hl k.size, fun j hj => cell_kp (hc j hj) k (hS g hb)⟩
theorem PlA.mono {w : World} {a b : Nat} {v : Value} {n : Nat} {f : Nat → Int} (h : PlA w b v n f) (hb : a ≤ b) : PlA w a v n f := by
  obtain ⟨g, cap, e, h1, hl, hc⟩ := h
  exact ⟨g, cap, e, Nat.le_trans hb h1, hl, hc⟩

def plL (p : Pq) (M : Mem) (i : Nat) : List Int := (List.range i).map (p.pl M)
theorem plL_len (p : Pq) (M : Mem) (i : Nat) : (plL p M i).length = i := by simp [plL]
theorem plL_succ (p : Pq) (M : Mem) (i : Nat) : plL p M (i + 1) = plL p M i ++ [p.pl M i] := by simp [plL, List.range_succ]
theorem plL_get (p : Pq) (M : Mem) {i j : Nat} (h : j < i) : (plL p M i).getD j 0 = p.pl M j := by
  unfold plL
  rw [List.getD_eq_getElem?_getD, List.getElem?_map, List.getElem?_range h]
  rfl

def pqC (c : Cp) (l : Int) (n : Nat) (wr it : Bool) : Pq := ⟨c.pg, c.cr3, l, n, wr, c.us && !it, c.wp⟩

/-- What is answered: places, or none and a fault. -/
def PlcV (w : World) (base : Nat) (v : Value) (q : Qy) : Prop := match q.f with
  | some _ => v = .slice none 0 0
  | none => PlA w base v q.s.n q.s.at

/-- Ahead of the i-th byte. -/
structure PlR (w : World) (R : Rf) (p : Pq) (M : Mem) (cs : Array Value) (X : Nat) (i : Nat) (s14 : Value) (wr : World) : Prop where
  o : OwnU wr (X + 2) s14 (plL p M i)
  r : RefAt wr R (p.mi M i)
  l : p.well M i
  c : PAt wr X cs
  t : RowT wr (X + 1) ⟨0, 0, 0⟩
  s : X + 2 ≤ wr.heap.size
  k : Kp R.has w wr

def PlQ (w : World) (R : Rf) (p : Pq) (M : Mem) (cs : Array Value) (X : Nat) (k : Nat) (s14 s15 s16 : Value) (wr : World) : Prop :=
  ∃ i : Nat, s16 = .int .i64 i ∧ s15 = .int .u32 (p.fr M i) ∧ i ≤ p.n ∧ p.n - i ≤ k ∧ PlR w R p M cs X i s14 wr

/-- A region that makes a Way: the processor's block, and the Way's. -/
structure RwI (w0 : World) (X : Nat) (cs : Array Value) (wt u wp : Bool) (Y : Nat) (al st : Bool) (W : World) : Prop where
  x : X < w0.heap.size
  p : PAt W X cs
  k : Kp noB w0 W
  a : al = true → st = false → w0.heap.size ≤ Y ∧ RowB W Y false false false
  s : st = true → w0.heap.size ≤ Y ∧ RowB W Y wt u wp
theorem RwI.new {wr : World} {X : Nat} {cs : Array Value} {wt u wp : Bool} (h : PAt wr X cs) : RwI wr X cs wt u wp 0 false false { wr with drawn := wr.drawn + 1 } := ⟨h.lt, h.kp (Kp.refl noB wr).drew (fun f => f), (Kp.refl noB wr).drew, fun e => by (cases e), fun e => by (cases e)⟩
theorem RwI.kp {w0 W W' : World} {X Y : Nat} {cs : Array Value} {wt u wp al st : Bool} (h : RwI w0 X cs wt u wp Y al st W) (k : Kp noB W W') : RwI w0 X cs wt u wp Y al st W' :=
  ⟨h.x, h.p.kp k (fun f => f), h.k.trans k, fun e f => ⟨(h.a e f).1, (h.a e f).2.kp k (fun f => f)⟩, fun e => ⟨(h.s e).1, (h.s e).2.kp k (fun f => f)⟩⟩
theorem RwI.al {w0 W : World} {X Y : Nat} {cs : Array Value} {wt u wp : Bool} (h : RwI w0 X cs wt u wp Y false false W) : RwI w0 X cs wt u wp W.heap.size true false (W.alloc (.cells #[.bool false, .bool false, .bool false] 132)) :=
  ⟨h.x, h.p.kp (Kp.alloc noB W _) (fun f => f), h.k.trans (Kp.alloc noB W _), fun _ _ => ⟨h.k.size, (MapKept.heap_alloc W _).1⟩, fun e => by (cases e)⟩
theorem RwI.st {w0 W : World} {X Y : Nat} {cs : Array Value} {wt u wp : Bool} (h : RwI w0 X cs wt u wp Y true false W) : RwI w0 X cs wt u wp Y true true (((W.setCell ⟨Y, 0, none⟩ (.bool wt)).setCell ⟨Y, 1, none⟩ (.bool u)).setCell ⟨Y, 2, none⟩ (.bool wp)) := by
  obtain ⟨hy, hr⟩ := h.a rfl rfl
  have hk := ((h.k.own' (i := 0) hy (.bool wt)).own' (i := 1) hy (.bool u)).own' (i := 2) hy (.bool wp)
  have h3 : Kp (fun j => j = Y) W (((W.setCell ⟨Y, 0, none⟩ (.bool wt)).setCell ⟨Y, 1, none⟩ (.bool u)).setCell ⟨Y, 2, none⟩ (.bool wp)) :=
    ((Kp.setCell (S := fun j => j = Y) W (p := ⟨Y, 0, none⟩) rfl _).trans (Kp.setCell (S := fun j => j = Y) _ (p := ⟨Y, 1, none⟩) rfl _)).trans (Kp.setCell (S := fun j => j = Y) _ (p := ⟨Y, 2, none⟩) rfl _)
  exact ⟨h.x, h.p.kp h3 (fun e => by have := h.x; omega), hk, fun _ e => by (cases e), fun _ => ⟨hy, ((hr.s0 wt).s1 u).s2 wp⟩⟩
theorem RwI.skip {w0 W : World} {X Y k : Nat} {cs : Array Value} {wt u wp : Bool} {listed : Array Bool} (h1 : k ≠ 12) (h2 : k ≠ 13) (h : RwI w0 X cs wt u wp Y (listed.getD 12 false) (listed.getD 13 false) W) : RwI w0 X cs wt u wp Y ((listed.setIfInBounds k true).getD 12 false) ((listed.setIfInBounds k true).getD 13 false) W := by
  rw [getD_set_ne false h1, getD_set_ne false h2]
  exact h

/-- Another place is put behind the others. -/
theorem PlR.app {w : World} {R : Rf} {p : Pq} {M : Mem} {cs : Array Value} {X i : Nat} {v v' : Value} {wr w3 w4 : World} (hX : ∀ k, R.has k → k < X) (hw : w.heap.size ≤ X) (h : PlR w R p M cs X i v wr)
    (hr : RefAt w3 R (p.mi M (i + 1))) (k3 : Kp R.has wr w3) (hl : p.well M (i + 1)) {x : Int} (e : x = p.pl M i)
    (ho : w4.ownsRow (X + 2) 24 1 v' ((plL p M i).length + 1) ((plL p M i).map (Value.int .u32) ++ [.int .u32 x])) (hg : Kp (fromU (X + 2)) w3 w4) : PlR w R p M cs X (i + 1) v' w4 where
  o := by unfold OwnU; rw [plL_succ, List.length_append, List.map_append]; subst e; exact ho
  r := hr.kp hg (fun j hj f => by have := hX j hj; unfold fromU at f; omega)
  l := hl
  c := (h.c.kp k3 (fun f => by have := hX X f; omega)).kp hg (fun f => by unfold fromU at f; omega)
  t := (h.t.kp k3 (fun f => by have := hX (X + 1) f; omega)).kp hg (fun f => by unfold fromU at f; omega)
  s := Nat.le_trans h.s (Nat.le_trans k3.size hg.size)
  k := (h.k.trans k3).over hg (fun j hj f => by unfold fromU at f; omega)

theorem fr_bd {p : Pq} (M : Mem) (hb : RdB M) (i : Nat) : 0 ≤ p.fr M i ∧ p.fr M i ≤ 4294963200 := by
  unfold Pq.fr
  split
  · omega
  split
  · have := fTwo_bd hb p.c p.l; unfold fFr; omega
  · have := fTwo_bd (hb.find p.c p.l p.wr p.us p.wp) p.c p.nx; unfold Pq.m1 fFr; omega
theorem Pq.rdb {p : Pq} {M : Mem} (hb : RdB M) (i : Nat) : RdB (p.mi M i) := by
  unfold Pq.mi
  split
  · exact hb
  split
  · exact hb.find _ _ _ _ _
  · exact (hb.find _ _ _ _ _).find _ _ _ _ _

theorem PlR.done {w : World} {R : Rf} {p : Pq} {M : Mem} {cs : Array Value} {X n : Nat} {v : Value} {wt w5 : World} (h : PlR w R p M cs X n v wt) (n0 : 1 ≤ n) (hX : ∀ k, R.has k → k < X) (hw : w.heap.size ≤ X)
    (hq : (p.q M).f = none ∧ (p.q M).m = p.mi M n ∧ (p.q M).s.n = n ∧ ∀ j, j < n → (p.q M).s.at j = p.pl M j) (k : Kp (fun j => j = X + 1) wt w5) : PlcV w5 w.heap.size v (p.q M) ∧ RefAt w5 R (p.q M).m ∧ Kp R.has w w5 := by
  refine ⟨?_, ?_, h.k.over k (fun j hj f => by omega)⟩
  · unfold PlcV
    rw [hq.1]
    have q := ((h.o.kp k (fun b hb f => by omega)).pl (by rw [plL_len]; omega)).mono (a := w.heap.size) (by omega)
    rw [plL_len] at q
    obtain ⟨g, cap, e, hb, hl, hc⟩ := q
    show PlA _ _ _ _ _
    rw [hq.2.2.1]
    exact ⟨g, cap, e, hb, hl, fun j hj => by rw [hc j hj, hq.2.2.2 j hj, ← plL_get p M hj]⟩
  · rw [hq.2.1]
    exact h.r.kp k (fun j hj f => by have := hX j hj; omega)

set_option maxRecDepth 100000 in
set_option maxHeartbeats 8000000 in
theorem places_any (w : World) (R : Rf) (M : Mem) (h : RefAt w R M) (hb : RdB M) (cs : Array Value) (wf : WfC cs) (c : Cp) (hc : CpC cs c) (ok : c.Ok) (l : Int) (n : Nat) (wt it : Bool) (l0 : 0 ≤ l) (l1 : l < 4294967296) (hn : n = 1 ∨ n = 2 ∨ n = 4) :
    Calls Tryz.prog 51 #[.pointer (some ⟨R.r, 0, none⟩), .agg cs, .int .u32 l, .int .i64 n, .bool wt, .bool it] w fun e w' => ∃ v, e = .returned (.tuple #[v, ((pqC c l n wt it).q M).ft.val]) ∧ PlcV w' w.heap.size v ((pqC c l n wt it).q M) ∧ RefAt w' R ((pqC c l n wt it).q M).m ∧ Kp R.has w w' := by
  obtain ⟨T, nn, Z, hV⟩ := vlP
  obtain ⟨vl, vs, va, vb⟩ := hV.ops
  obtain ⟨i0, hi0, hz0, hz1, hz2⟩ := info_parts info32U
  have g1 := hV.agg; have g2 := hV.size; have g3 := hV.zero
  have o : (pqC c l n wt it).Ok := ⟨ok.t0, ok.t1, l0, l1, hn⟩
  have hpn : (pqC c l n wt it).n = n := rfl
  have hpa : ∀ i : Nat, (pqC c l n wt it).at i = (l + i) % 4294967296 := fun i => rfl
  have hpg : (pqC c l n wt it).pg = hasF c.cr0 2147483648 := rfl
  have HF : Hid (∀ W a m, RefAt W R m → RdB m → 0 ≤ a → a < 4294967296 → Calls Tryz.prog 79 #[.pointer (some ⟨R.r, 0, none⟩), .int .u32 c.cr3, .int .u32 a, .agg #[.bool wt, .bool (c.us && !it), .bool c.wp]] W (RdPost W R m (pqC c l n wt it).c a (pqC c l n wt it).wr (pqC c l n wt it).us (pqC c l n wt it).wp)) := fun W a m hm hb a0 a1 => rfind_any W R m hm hb c.cr3 a wt (c.us && !it) c.wp ok.t0 ok.t1 a0 a1
  have HRi : Hid (∀ W, Calls Tryz.prog 78 #[.agg cs] W fun e w' => e = .returned (.int .i64 ((c.seg 1).sel % 4)) ∧ Kp noB W w') := fun W => vRing W cs wf c hc ok
  have HH : Hid (∀ W, Calls Tryz.prog 77 #[.int .u32 c.cr0, .int .i64 31] W fun e w' => e = .returned (.bool (hasF c.cr0 2147483648)) ∧ w' = W) := fun W => vHas31 W c.cr0 ok.z0 ok.z1
  have HW : Hid (∀ W, Calls Tryz.prog 77 #[.int .u32 c.cr0, .int .i64 16] W fun e w' => e = .returned (.bool c.wp) ∧ w' = W) := fun W => vHas16 W c.cr0 ok.z0 ok.z1
  have hus : c.us = decide ((c.seg 1).sel % 4 = 3) := rfl
  have hN : Hid (∀ W, Calls Tryz.prog 80 #[] W fun e w' => e = .returned (.agg #[.int .i64 (-1), .int .i64 (-1), .int .u32 0]) ∧ Kp noB W w') := vNone
  have HC0 : Hid (cs[64]? = some (.int .u32 c.cr0) ∧ cs[66]? = some (.int .u32 c.cr3)) := ⟨hc.z, hc.t⟩
  obtain ⟨p, hp⟩ : ∃ p, p = pqC c l n wt it := ⟨_, rfl⟩
  rw [← hp] at o hpn hpa hpg HF ⊢
  clear hp
  obtain ⟨X, hX⟩ : ∃ X, w.heap.size = X := ⟨_, rfl⟩
  obtain ⟨W0, hW0⟩ : ∃ W, W = (w.alloc (.cells cs T)).alloc (.cells #[.int .i64 0, .int .i64 0, .int .u32 0] 54) := ⟨_, rfl⟩
  have kA := Kp.alloc noB w (.cells cs T)
  have kB := Kp.alloc noB (w.alloc (.cells cs T)) (.cells #[.int .i64 0, .int .i64 0, .int .u32 0] 54)
  have k0 : Kp noB w W0 := by rw [hW0]; exact kA.trans kB
  have pA : PAt W0 X cs := by rw [hW0, ← hX]; exact (hV.at wf w).kp kB (fun f => f)
  have rT : RowT W0 (X + 1) ⟨0, 0, 0⟩ := by
    have := (MapKept.heap_alloc (w.alloc (.cells cs T)) (.cells #[.int .i64 0, .int .i64 0, .int .u32 0] 54)).1
    rw [show (w.alloc (.cells cs T)).heap.size = X + 1 by simp [hX]] at this
    rw [hW0]; exact this
  have hst := hV.new wf w
  have hsz : cs.size = nn := by rw [wf.s, hV.s]
  have HX : Hid ((∀ k, R.has k → k < X) ∧ w.heap.size ≤ X ∧ W0.heap.size = X + 2) := ⟨fun k hk => by rw [← hX]; exact h.lt hk, by omega, by rw [hW0]; simp [hX]⟩
  have P0 : PlR w R p M cs X 0 (.slice none 0 0) W0 := ⟨World.ownsRow_nil _ _ _ _, by rw [p.mi_zero]; exact h.kp k0 (fun _ _ f => f), p.well0 M, pA, rT, by rw [HX.out.2.2]; exact Nat.le_refl _, kp_no k0⟩
  have HV : Hid (VlP T nn Z) := hV
  have HO : Hid p.Ok := o
  have HB : Hid (RdB M) := hb
  have HXw : Hid (X = w.heap.size) := hX.symm
  have F0 : p.fr M 0 = 0 := by unfold Pq.fr; rw [if_pos (.inr rfl)]
  clear h hb wf hc ok kA kB k0 pA rT hV o
  go_enter Tryz.func51, Tryz.ntmps51
  simp only [vl, vs, va, vb] at *
  go_wp2_with fail
  rw [← hW0]
  clear hW0 hst hsz hX
  go_loopg [14, 15, 16] n (PlQ w R p M cs X)
  case atStart => exact ⟨0, rfl, by rw [F0], Nat.zero_le _, by rw [hpn]; exact Nat.le_refl _, P0⟩
  case round =>
    clear P0 F0
    obtain ⟨i, rfl, rfl, hi, hik, hP⟩ := hrel
    rw [hpn] at hi hik
    by_cases hlt : i < n
    · have hz : (i : Int) < (n : Int) := by omega
      have ba := p.at_bd i
      have hae : Hid (p.at i = (l + i) % 4294967296) := hpa i
      obtain ⟨a, ha⟩ : ∃ a, a = p.at i := ⟨_, rfl⟩
      have ea : (l + (i : Int)) % 4294967296 = a := by rw [ha]; exact (hpa i).symm
      have HA : Hid (a = p.at i) := ha
      rw [← ha] at ba
      clear ha
      have c64 := hP.c.cell HC0.out.1
      have c66 := hP.c.cell HC0.out.2
      have hi4 : (i : Int) < 4 := by omega
      have hown : wr.ownsRow (X + 2) 24 1 u14 (plL p M i).length ((plL p M i).map (Value.int .u32)) := hP.o
      have hll := plL_len p M i
      have hXs := hP.s
      have HP : Hid (PlR w R p M cs X i u14 wr) := hP
      obtain ⟨j, hj⟩ : ∃ j, j = i + 1 := ⟨_, rfl⟩
      have HJ : Hid (j = i + 1) := hj
      have HK : Hid (n - i ≤ gk) := hik
      have HN : Hid (p.n = n) := hpn
      clear hik hj hP hpn hpa
      cases hg : p.pg with
      | false =>
        rw [hg] at hpg
        have hpg' := hpg.symm
        have HG : Hid (p.pg = false) := hg
        clear hg hpg c66
        go_wp2_with fail
        refine (HH.out _).mono ?_; rintro e w' ⟨rfl, hw⟩; replace hw := hw.symm; subst hw
        go_wp2_with (at_builtin; (refine wpList_append_own _ rfl _ _ 113 rfl (X + 2) 24 i0 (.int .u32 0) 1 4 slice32U hi0 hz0 hz1 hz2 rfl (by decide) _ _ _ rfl (hown.alloc _) ⟨wr.heap.size, 0, none⟩ 1 1 [.int .u32 a] rfl rfl (cell_one_new _ _ _) (by simp [Value.oneCell']) (by unfold maxLen; omega) (by omega) (by simp; omega) ?_; intro v' w5 hown' hgrow _))
        have kg := kp_grownU (hown.alloc _) hgrow
        go_roundg (n - j)
        case measure => have := HJ.out; have := HK.out; omega
        case rel =>
          refine ⟨j, by rw [HJ.out]; rfl, by rw [p.fr_no HG.out, p.fr_no HG.out], by rw [HN.out]; have := HJ.out; omega, by rw [HN.out]; exact Nat.le_refl _, ?_⟩
          rw [HJ.out]
          refine PlR.app HX.out.1 HX.out.2.1 HP.out (w3 := wr.alloc (.cells #[.int .u32 a] 24)) ?_ (Kp.alloc _ _ _) (p.well_no HG.out _ _) (x := a) ?_ hown' kg
          · have := HP.out.r
            rw [p.mi_no HG.out] at this ⊢
            exact this.kp (Kp.alloc noB _ _) (fun _ _ f => f)
          · rw [HA.out]; unfold Pq.pl; rw [if_pos HG.out]
      | true =>
        rw [hg] at hpg
        have hpg' := hpg.symm
        have HG : Hid (p.pg = true) := hg
        clear hg hpg
        have hfr := fr_bd (p := p) M HB.out i
        cases hak : p.asks i with
        | false =>
          obtain ⟨i0', e1, e2, e3⟩ := p.rest HO.out HG.out M (by rw [HN.out]; exact hlt) hak
          have hq0 : ¬ (i : Int) = 0 := by omega
          have hq1 : ((i : Int) == 0) = false := by simpa using i0'
          have hq4 : (a % 4096 == 0) = false := by
            unfold Pq.asks at hak
            rw [← HA.out] at hak
            simp only [Bool.or_eq_false_iff] at hak
            exact hak.2
          have hq5 : ¬ a % 4096 = 0 := by simpa using hq4
          obtain ⟨fr, hfe⟩ : ∃ fr, fr = p.fr M i := ⟨_, rfl⟩
          obtain ⟨x, hx⟩ : ∃ x, fr + a % 4096 = x := ⟨_, rfl⟩
          have HE1 : Hid (p.mi M (i + 1) = p.mi M i ∧ p.fr M (i + 1) = fr ∧ p.well M (i + 1) ∧ x = p.pl M i) := ⟨e1, by rw [e2, hfe], e3 HP.out.l, by
            unfold Pq.pl
            rw [if_neg (by rw [HG.out]; simp), e2, ← hfe, ← HA.out, ← hx]
            rw [← hfe] at hfr
            omega⟩
          rw [← hfe] at hfr ⊢
          clear i0' e1 e2 e3 hak hfe c66
          go_wp2_with fail
          refine (HH.out _).mono ?_; rintro e w' ⟨rfl, hw⟩; replace hw := hw.symm; subst hw
          go_wp2_with (at_builtin; (refine wpList_append_own _ rfl _ _ 113 rfl (X + 2) 24 i0 (.int .u32 0) 1 4 slice32U hi0 hz0 hz1 hz2 rfl (by decide) _ _ _ rfl (hown.alloc _) ⟨wr.heap.size, 0, none⟩ 1 1 [.int .u32 x] rfl rfl (cell_one_new _ _ _) (by simp [Value.oneCell']) (by unfold maxLen; omega) (by omega) (by simp; omega) ?_; intro v' w5 hown' hgrow _))
          have kg := kp_grownU (hown.alloc _) hgrow
          go_roundg (n - j)
          case measure => have := HJ.out; have := HK.out; omega
          case rel =>
            refine ⟨j, by rw [HJ.out]; rfl, by rw [HJ.out, HE1.out.2.1], by rw [HN.out]; have := HJ.out; omega, by rw [HN.out]; exact Nat.le_refl _, ?_⟩
            rw [HJ.out]
            refine PlR.app HX.out.1 HX.out.2.1 HP.out (w3 := wr.alloc (.cells #[.int .u32 x] 24)) ?_ (Kp.alloc _ _ _) HE1.out.2.2.1 HE1.out.2.2.2 hown' kg
            have := HP.out.r
            rw [HE1.out.1]
            exact this.kp (Kp.alloc noB _ _) (fun _ _ f => f)
        | true =>
          have hask := p.ask HO.out HG.out M (by rw [HN.out]; exact hlt) hak
          have hbad := p.bad HO.out HG.out M (by rw [HN.out]; exact hlt) hak HP.out.l
          rw [← HA.out] at hask hbad
          have HAsk : Hid _ := hask
          have HBad : Hid _ := hbad
          clear hask hbad
          have HFi : Hid (∀ W, RefAt W R (p.mi M i) → Calls Tryz.prog 79 #[.pointer (some ⟨R.r, 0, none⟩), .int .u32 c.cr3, .int .u32 a, .agg #[.bool wt, .bool (c.us && !it), .bool c.wp]] W (RdPost W R (p.mi M i) p.c a p.wr p.us p.wp)) := fun W hW => HF.out W a _ hW (p.rdb HB.out i) ba.1 ba.2
          have hq : ((i : Int) == 0) = true ∨ (((i : Int) == 0) = false ∧ (a % 4096 == 0) = true) := by
            unfold Pq.asks at hak
            rw [← HA.out] at hak
            by_cases h0 : i = 0
            · left; simp [h0]
            · right
              simp [h0] at hak
              simp [h0, hak]
          obtain ⟨fr2, hfr2⟩ : ∃ f, f = p.fr M (i + 1) := ⟨_, rfl⟩
          have hf2 := fr_bd (p := p) M HB.out (i + 1)
          rw [← hfr2] at hf2
          obtain ⟨cd, hcd⟩ : ∃ f, f = fCode (p.mi M i) p.c a p.wr p.us p.wp := ⟨_, rfl⟩
          have HFt : Hid (fOk (p.mi M i) p.c a p.wr p.us p.wp = true → ∀ W, RefAt W R (p.mi M i) → Calls Tryz.prog 79 #[.pointer (some ⟨R.r, 0, none⟩), .int .u32 c.cr3, .int .u32 a, .agg #[.bool wt, .bool (c.us && !it), .bool c.wp]] W (fun e w' => ∃ pd pt bw bu, e = .returned (.tuple #[.agg #[.int .u32 fr2, .int .u32 pd, .int .u32 pt, .bool bw, .bool bu], .int .i64 (-1)]) ∧ RefAt w' R (p.mi M (i + 1)) ∧ Kp R.has W w')) := fun hk W hW => (HFi.out W hW).mono fun e w' ⟨h1, h2, h3⟩ => by
            rw [HAsk.out.1] at h2
            refine ⟨pdeA p.c a, fPte (p.mi M i) p.c a, fW (p.mi M i) p.c a, fU (p.mi M i) p.c a, h1.trans ?_, h2, h3⟩
            unfold fWalk fCode
            rw [if_pos hk, HAsk.out.2.1, ← hfr2]
            unfold fOk at hk
            rw [Bool.and_eq_true] at hk
            rw [if_pos hk.1, if_pos hk.2]
            rfl
          have HFf : Hid (fOk (p.mi M i) p.c a p.wr p.us p.wp = false → 0 ≤ cd ∧ ∀ W, RefAt W R (p.mi M i) → Calls Tryz.prog 79 #[.pointer (some ⟨R.r, 0, none⟩), .int .u32 c.cr3, .int .u32 a, .agg #[.bool wt, .bool (c.us && !it), .bool c.wp]] W (fun e w' => e = .returned (.tuple #[.agg #[.int .u32 0, .int .u32 0, .int .u32 0, .bool false, .bool false], .int .i64 cd]) ∧ RefAt w' R (p.mi M (i + 1)) ∧ Kp R.has W w')) := fun hk => by
            refine ⟨?_, fun W hW => (HFi.out W hW).mono fun e w' ⟨h1, h2, h3⟩ => ?_⟩
            · rw [hcd]
              unfold fOk at hk
              unfold fCode
              split
              · rename_i h1
                rw [h1] at hk
                have h2 : ¬ letsB (fW (p.mi M i) p.c a) (fU (p.mi M i) p.c a) p.wr p.us p.wp = true := by simpa using hk
                rw [if_neg h2]
                unfold codeW flg; split <;> split <;> decide
              · unfold codeW flg; split <;> split <;> decide
            · rw [HAsk.out.1] at h2
              refine ⟨h1.trans ?_, h2, h3⟩
              rw [hcd]
              unfold fWalk
              rw [if_neg (by rw [hk]; simp)]
              rfl
          have HCd : Hid (cd = fCode (p.mi M i) p.c a p.wr p.us p.wp) := hcd
          have HFR2 : Hid (fr2 = p.fr M (i + 1)) := hfr2
          obtain ⟨r, hr⟩ : ∃ r, r = (c.seg 1).sel % 4 := ⟨_, rfl⟩
          obtain ⟨b3, hb3⟩ : ∃ b3, b3 = decide (r = 3) := ⟨_, rfl⟩
          rw [← hr] at HRi hus
          rw [hus, ← hb3] at HFt HFf
          have hb4 : (r == 3) = b3 := by rw [hb3]; rfl
          clear hr hb3 hus hak HFi hcd hfr2
          have c64' := c64
          go_wp2_with fail
          refine (HH.out _).mono ?_; rintro e w' ⟨rfl, hw⟩; replace hw := hw.symm; subst hw
          rcases hq with hq1 | ⟨hq1, hq4⟩
          · have HRw0 : Hid (∀ u, RwI wr X cs wt u c.wp 0 false false { wr with drawn := wr.drawn + 1 }) := fun u => RwI.new HP.out.c
            cases b3
            · skip
              go_upto_region 10 with fail
              refine OrdS.region_skip (τ := Nat) (fun t => [(.bool wt), (.agg cs), (.int .i64 r), (.bool false), (.bool false), undef, undef, (.bool false), (.pointer (some ⟨X, 64, none⟩)), (.int .u32 c.cr0), (.bool c.wp), (.agg #[.bool wt, .bool false, .bool c.wp]), (.pointer (some ⟨t, 0, none⟩)), undef]) (fun t listed w' => RwI wr X cs wt false c.wp t (listed.getD 12 false) (listed.getD 13 false) w') 0 (by kernel_rfl) (by kernel_rfl) (by kernel_rfl) (by kernel_rfl) (fun _ => rfl) (fun t => by simp only [OrdG.puts, Act.put, List.setIfInBounds_toArray, List.set_cons_zero, List.set_cons_succ]; rfl) (fun _ => by kernel_rfl) (fun t listed W' k hk hI => RwI.skip (fun h => hk _ (by subst h; rfl) rfl) (fun h => hk _ (by subst h; rfl) rfl) hI) (HRw0.out _) ?_ ?_
              · refine ⟨?_, ?_, ?_, ?_, ?_, ?_, ?_, ?_, ?_, ?_, ?_, ?_, ?_, ?_, trivial⟩
                all_goals (intro t listed W' hwt hz hSh hl hI hb KK hK hK0; change RwI wr X cs wt false c.wp t (listed.getD 12 false) (listed.getD 13 false) W' at hI; replace hz : listed.size = 14 := hz)
                · go_simp
                  exact hK0 _ (by show RwI wr X cs wt false c.wp t _ _ _; rw [getD_set_ne false (by decide), getD_set_ne false (by decide)]; exact hI)
                · have H1 : Hid _ := HV.out.get hI.p
                  have h1 := H1.out
                  go_simp
                  exact hK0 _ (by show RwI wr X cs wt false c.wp t _ _ _; rw [getD_set_ne false (by decide), getD_set_ne false (by decide)]; exact hI)
                · go_simp
                  refine Calls.mono (HRi.out _) ?_; rintro e z5 ⟨rfl, k5⟩
                  exact hK0 _ (by show RwI wr X cs wt false c.wp t _ _ _; rw [getD_set_ne false (by decide), getD_set_ne false (by decide)]; exact hI.kp k5)
                · go_simp
                  exact hK0 _ (by show RwI wr X cs wt false c.wp t _ _ _; rw [getD_set_ne false (by decide), getD_set_ne false (by decide)]; exact hI)
                · go_simp
                  exact hK0 _ (by show RwI wr X cs wt false c.wp t _ _ _; rw [getD_set_ne false (by decide), getD_set_ne false (by decide)]; exact hI)
                · refine False.elim (Bool.eq_false_iff.mp ?_ hwt)
                  kernel_rfl
                · refine False.elim (Bool.eq_false_iff.mp ?_ hwt)
                  kernel_rfl
                · go_simp
                  exact hK0 _ (by show RwI wr X cs wt false c.wp t _ _ _; rw [getD_set_ne false (by decide), getD_set_ne false (by decide)]; exact hI)
                · go_simp
                  exact hK0 _ (by show RwI wr X cs wt false c.wp t _ _ _; rw [getD_set_ne false (by decide), getD_set_ne false (by decide)]; exact hI)
                · have h1 := hI.p.cell HC0.out.1
                  go_simp
                  exact hK0 _ (by show RwI wr X cs wt false c.wp t _ _ _; rw [getD_set_ne false (by decide), getD_set_ne false (by decide)]; exact hI)
                · go_simp
                  refine Calls.mono (HW.out _) ?_; rintro e z5 ⟨rfl, hz5⟩
                  subst hz5
                  exact hK0 _ (by show RwI wr X cs wt false c.wp t _ _ _; rw [getD_set_ne false (by decide), getD_set_ne false (by decide)]; exact hI)
                · go_simp
                  exact hK0 _ (by show RwI wr X cs wt false c.wp t _ _ _; rw [getD_set_ne false (by decide), getD_set_ne false (by decide)]; exact hI)
                · have n13 := OrdG.shut_no (j := 13) hSh hl (by kernel_rfl)
                  rw [hl, n13] at hI
                  go_simp
                  refine hK _ _ ⟨W'.heap.size, rfl, OrdG.vals_one rfl hl, ?_⟩
                  show RwI wr X cs wt false c.wp _ (Array.getD _ 12 false) (Array.getD _ 13 false) _
                  rw [OrdG.getD_self hz (by decide), getD_set_ne false (by decide), n13]
                  exact hI.al
                · have y12 := OrdG.on_of (i := 12) hb (by kernel_rfl)
                  rw [y12, hl] at hI
                  obtain ⟨r0, rz⟩ := hI.a rfl rfl
                  obtain ⟨z0, z1, z2, y0, y1, y2⟩ : _ ∧ _ ∧ _ ∧ _ ∧ _ ∧ _ := ⟨rz.c0, rz.c1, rz.c2, frozen_at (o := 0) rz, frozen_at (o := 1) rz, frozen_at (o := 2) rz⟩
                  go_simp
                  refine hK0 _ ?_
                  show RwI wr X cs wt false c.wp t (Array.getD _ 12 false) (Array.getD _ 13 false) _
                  rw [OrdG.getD_self hz (by decide), getD_set_ne false (by decide), y12]
                  exact hI.st
              · intro t listed W' hall hI
                change RwI wr X cs wt false c.wp t (listed.getD 12 false) (listed.getD 13 false) W' at hI
                have hY := hI.s (hall 13 (by show 13 < 14; decide))
                have HI : Hid (RwI wr X cs wt false c.wp t (listed.getD 12 false) (listed.getD 13 false) W') := hI
                obtain ⟨hY0, rY⟩ := hY
                have z0 := rY.c0; have z1 := rY.c1; have z2 := rY.c2
                have d66 := HI.out.p.cell HC0.out.2
                have HRr := HP.out.r.kp HI.out.k (fun _ _ f => f)
                have HK5 : Hid _ := HP.out.k.trans (kp_no HI.out.k)
                have ho5 := HP.out.o.kp HI.out.k (fun _ _ f => f)
                have rT5 := HP.out.t.kp HI.out.k (fun f => f)
                have pA5 := HI.out.p
                have hXs5 := Nat.le_trans hXs HI.out.k.size
                have HYs : Hid (wr.heap.size ≤ W'.heap.size) := HI.out.k.size
                clear hI hall hown hXs
                cases hok : fOk (p.mi M i) p.c a p.wr p.us p.wp with
                | true =>
                  have HC : Hid (Calls Tryz.prog 79 #[.pointer (some ⟨R.r, 0, none⟩), .int .u32 c.cr3, .int .u32 a, .agg #[.bool wt, .bool false, .bool c.wp]] W' _) := HFt.out hok W' HRr
                  have HWl : Hid (p.well M (i + 1)) := HAsk.out.2.2 HP.out.l hok
                  go_wp2_with fail
                  refine Calls.mono HC.out ?_; rintro e w6 ⟨pd, pt, bw, bu, rfl, hr6, k6⟩
                  clear HC
                  have kW := Kp.alloc noB w6 (.cells #[.int .u32 fr2, .int .u32 pd, .int .u32 pt, .bool bw, .bool bu] 145)
                  have rK : RowK (w6.alloc (.cells #[.int .u32 fr2, .int .u32 pd, .int .u32 pt, .bool bw, .bool bu] 145)) w6.heap.size fr2 pd pt bw bu := (MapKept.heap_alloc w6 _).1
                  have d0 := rK.c0
                  have hown : OwnU _ (X + 2) u14 (plL p M i) := (ho5.kp k6 (fun b hb f => by have := HX.out.1 b f; omega)).kp kW (fun _ _ f => f)
                  have hXs := Nat.le_trans hXs5 (Nat.le_trans k6.size kW.size)
                  have HR7 : Hid _ := hr6.kp kW (fun _ _ f => f)
                  have HK7 : Hid _ := k6.trans (kp_no kW)
                  obtain ⟨Y7, hY7⟩ : ∃ Y, Y = w6.heap.size := ⟨_, rfl⟩
                  obtain ⟨W7, hW7⟩ : ∃ W, W = w6.alloc (.cells #[.int .u32 fr2, .int .u32 pd, .int .u32 pt, .bool bw, .bool bu] 145) := ⟨_, rfl⟩
                  rw [← hW7] at rK d0 hown hXs HR7 HK7
                  rw [← hY7] at rK d0
                  unfold OwnU at hown
                  obtain ⟨x, hx⟩ : ∃ x, fr2 + a % 4096 = x := ⟨_, rfl⟩
                  have HE1 : Hid (x = p.pl M i) := by
                    unfold Pq.pl
                    rw [if_neg (by rw [HG.out]; simp), ← HFR2.out, ← HA.out, ← hx]
                    show fr2 + a % 4096 = _
                    omega
                  go_upto_region 12 with fail
                  rw [← hW7, ← hY7]
                  clear hW7 hY7 kW k6 hr6 rY z0 z1 z2 ho5 rT5 pA5 d66 HRr c64 c66 c64' rK hok
                  go_wp2_with (at_builtin; (refine wpList_append_own _ rfl _ _ 113 rfl (X + 2) 24 i0 (.int .u32 0) 1 4 slice32U hi0 hz0 hz1 hz2 rfl (by decide) _ _ _ rfl (hown.alloc _) ⟨W7.heap.size, 0, none⟩ 1 1 [.int .u32 x] rfl rfl (cell_one_new _ _ _) (by simp [Value.oneCell']) (by unfold maxLen; omega) (by omega) (by simp; omega) ?_; intro v' w5 hown' hgrow _))
                  have kg := kp_grownU (hown.alloc _) hgrow
                  go_roundg (n - j)
                  case measure => have := HJ.out; have := HK.out; omega
                  case rel =>
                    refine ⟨j, by rw [HJ.out]; rfl, by rw [HJ.out, HFR2.out], by rw [HN.out]; have := HJ.out; omega, by rw [HN.out]; exact Nat.le_refl _, ?_⟩
                    rw [HJ.out]
                    exact PlR.app HX.out.1 HX.out.2.1 HP.out (w3 := W7.alloc (.cells #[.int .u32 x] 24)) (HR7.out.kp (Kp.alloc noB _ _) (fun _ _ f => f)) ((kp_no HI.out.k).trans (HK7.out.trans (Kp.alloc _ _ _))) HWl.out HE1.out hown' kg
                | false =>
                  obtain ⟨hcd0, hF⟩ := HFf.out hok
                  have HC : Hid (Calls Tryz.prog 79 #[.pointer (some ⟨R.r, 0, none⟩), .int .u32 c.cr3, .int .u32 a, .agg #[.bool wt, .bool false, .bool c.wp]] W' _) := hF W' HRr
                  have HBd : Hid _ := HBad.out hok
                  go_wp2_with fail
                  refine Calls.mono HC.out ?_; rintro e w6 ⟨rfl, hr6, k6⟩
                  clear HC hF
                  have kW := Kp.alloc noB w6 (.cells #[.int .u32 0, .int .u32 0, .int .u32 0, .bool false, .bool false] 145)
                  have rT := (rT5.kp k6 (fun f => by have := HX.out.1 _ f; omega)).kp kW (fun f => f)
                  have HR7 : Hid _ := hr6.kp kW (fun _ _ f => f)
                  have HK7 : Hid _ := HK5.out.trans (k6.trans (kp_no kW))
                  obtain ⟨W7, hW7⟩ : ∃ W, W = w6.alloc (.cells #[.int .u32 0, .int .u32 0, .int .u32 0, .bool false, .bool false] 145) := ⟨_, rfl⟩
                  rw [← hW7] at rT HR7 HK7
                  go_upto_region 12 with fail
                  rw [← hW7]
                  clear hW7 kW k6 hr6 rY z0 z1 z2 ho5 rT5 pA5 d66 HRr c64 c66 c64' hok
                  obtain ⟨c0, c1, c2, f0, f1, f2⟩ : _ ∧ _ ∧ _ ∧ _ ∧ _ ∧ _ := ⟨rT.c0, rT.c1, rT.c2, rT.fz 0, rT.fz 1, rT.fz 2⟩
                  have r5 := rT.set ⟨14, cd, a⟩
                  have k7 := kp_setFt W7 (X + 1) ⟨14, cd, a⟩
                  obtain ⟨d0, d1, d2⟩ : _ ∧ _ ∧ _ := ⟨r5.c0, r5.c1, r5.c2⟩
                  have HR8 : Hid _ := HR7.out.kp k7 (fun j hj e => by have := HX.out.1 j hj; omega)
                  have HK8 : Hid _ := HK7.out.over k7 (fun j hj f => by have := HX.out.2.1; omega)
                  clear r5 k7
                  unfold setFt at *
                  have hcd1 : ¬ cd < 0 := by omega
                  go_wp2
                  refine bodyPost_ret (v := .tuple #[.slice none 0 0, .agg #[.int .i64 14, .int .i64 cd, .int .u32 a]]) (by simp [results, Tryz.results51, go_sem, d0, d1, d2]) rfl ⟨.slice none 0 0, ?_, ?_, ?_, ?_⟩
                  · unfold Qy.ft; rw [HBd.out.1, HCd.out]; rfl
                  · unfold PlcV; rw [HBd.out.1]
                  · rw [HBd.out.2]; exact HR8.out
                  · exact HK8.out
            · skip
              go_upto_region 10 with fail
              refine OrdS.region_skip (τ := Nat) (fun t => [(.bool wt), (.agg cs), (.int .i64 r), (.bool true), (.bool true), (.bool it), (.bool (!it)), (.bool (!it)), (.pointer (some ⟨X, 64, none⟩)), (.int .u32 c.cr0), (.bool c.wp), (.agg #[.bool wt, .bool (!it), .bool c.wp]), (.pointer (some ⟨t, 0, none⟩)), undef]) (fun t listed w' => RwI wr X cs wt (!it) c.wp t (listed.getD 12 false) (listed.getD 13 false) w') 0 (by kernel_rfl) (by kernel_rfl) (by kernel_rfl) (by kernel_rfl) (fun _ => rfl) (fun t => by simp only [OrdG.puts, Act.put, List.setIfInBounds_toArray, List.set_cons_zero, List.set_cons_succ]; rfl) (fun _ => by kernel_rfl) (fun t listed W' k hk hI => RwI.skip (fun h => hk _ (by subst h; rfl) rfl) (fun h => hk _ (by subst h; rfl) rfl) hI) (HRw0.out _) ?_ ?_
              · refine ⟨?_, ?_, ?_, ?_, ?_, ?_, ?_, ?_, ?_, ?_, ?_, ?_, ?_, ?_, trivial⟩
                all_goals (intro t listed W' hwt hz hSh hl hI hb KK hK hK0; change RwI wr X cs wt (!it) c.wp t (listed.getD 12 false) (listed.getD 13 false) W' at hI; replace hz : listed.size = 14 := hz)
                · go_simp
                  exact hK0 _ (by show RwI wr X cs wt (!it) c.wp t _ _ _; rw [getD_set_ne false (by decide), getD_set_ne false (by decide)]; exact hI)
                · have H1 : Hid _ := HV.out.get hI.p
                  have h1 := H1.out
                  go_simp
                  exact hK0 _ (by show RwI wr X cs wt (!it) c.wp t _ _ _; rw [getD_set_ne false (by decide), getD_set_ne false (by decide)]; exact hI)
                · go_simp
                  refine Calls.mono (HRi.out _) ?_; rintro e z5 ⟨rfl, k5⟩
                  exact hK0 _ (by show RwI wr X cs wt (!it) c.wp t _ _ _; rw [getD_set_ne false (by decide), getD_set_ne false (by decide)]; exact hI.kp k5)
                · go_simp
                  exact hK0 _ (by show RwI wr X cs wt (!it) c.wp t _ _ _; rw [getD_set_ne false (by decide), getD_set_ne false (by decide)]; exact hI)
                · go_simp
                  exact hK0 _ (by show RwI wr X cs wt (!it) c.wp t _ _ _; rw [getD_set_ne false (by decide), getD_set_ne false (by decide)]; exact hI)
                · go_simp
                  exact hK0 _ (by show RwI wr X cs wt (!it) c.wp t _ _ _; rw [getD_set_ne false (by decide), getD_set_ne false (by decide)]; exact hI)
                · go_simp
                  exact hK0 _ (by show RwI wr X cs wt (!it) c.wp t _ _ _; rw [getD_set_ne false (by decide), getD_set_ne false (by decide)]; exact hI)
                · go_simp
                  exact hK0 _ (by show RwI wr X cs wt (!it) c.wp t _ _ _; rw [getD_set_ne false (by decide), getD_set_ne false (by decide)]; exact hI)
                · go_simp
                  exact hK0 _ (by show RwI wr X cs wt (!it) c.wp t _ _ _; rw [getD_set_ne false (by decide), getD_set_ne false (by decide)]; exact hI)
                · have h1 := hI.p.cell HC0.out.1
                  go_simp
                  exact hK0 _ (by show RwI wr X cs wt (!it) c.wp t _ _ _; rw [getD_set_ne false (by decide), getD_set_ne false (by decide)]; exact hI)
                · go_simp
                  refine Calls.mono (HW.out _) ?_; rintro e z5 ⟨rfl, hz5⟩
                  subst hz5
                  exact hK0 _ (by show RwI wr X cs wt (!it) c.wp t _ _ _; rw [getD_set_ne false (by decide), getD_set_ne false (by decide)]; exact hI)
                · go_simp
                  exact hK0 _ (by show RwI wr X cs wt (!it) c.wp t _ _ _; rw [getD_set_ne false (by decide), getD_set_ne false (by decide)]; exact hI)
                · have n13 := OrdG.shut_no (j := 13) hSh hl (by kernel_rfl)
                  rw [hl, n13] at hI
                  go_simp
                  refine hK _ _ ⟨W'.heap.size, rfl, OrdG.vals_one rfl hl, ?_⟩
                  show RwI wr X cs wt (!it) c.wp _ (Array.getD _ 12 false) (Array.getD _ 13 false) _
                  rw [OrdG.getD_self hz (by decide), getD_set_ne false (by decide), n13]
                  exact hI.al
                · have y12 := OrdG.on_of (i := 12) hb (by kernel_rfl)
                  rw [y12, hl] at hI
                  obtain ⟨r0, rz⟩ := hI.a rfl rfl
                  obtain ⟨z0, z1, z2, y0, y1, y2⟩ : _ ∧ _ ∧ _ ∧ _ ∧ _ ∧ _ := ⟨rz.c0, rz.c1, rz.c2, frozen_at (o := 0) rz, frozen_at (o := 1) rz, frozen_at (o := 2) rz⟩
                  go_simp
                  refine hK0 _ ?_
                  show RwI wr X cs wt (!it) c.wp t (Array.getD _ 12 false) (Array.getD _ 13 false) _
                  rw [OrdG.getD_self hz (by decide), getD_set_ne false (by decide), y12]
                  exact hI.st
              · intro t listed W' hall hI
                change RwI wr X cs wt (!it) c.wp t (listed.getD 12 false) (listed.getD 13 false) W' at hI
                have hY := hI.s (hall 13 (by show 13 < 14; decide))
                have HI : Hid (RwI wr X cs wt (!it) c.wp t (listed.getD 12 false) (listed.getD 13 false) W') := hI
                obtain ⟨hY0, rY⟩ := hY
                have z0 := rY.c0; have z1 := rY.c1; have z2 := rY.c2
                have d66 := HI.out.p.cell HC0.out.2
                have HRr := HP.out.r.kp HI.out.k (fun _ _ f => f)
                have HK5 : Hid _ := HP.out.k.trans (kp_no HI.out.k)
                have ho5 := HP.out.o.kp HI.out.k (fun _ _ f => f)
                have rT5 := HP.out.t.kp HI.out.k (fun f => f)
                have pA5 := HI.out.p
                have hXs5 := Nat.le_trans hXs HI.out.k.size
                have HYs : Hid (wr.heap.size ≤ W'.heap.size) := HI.out.k.size
                clear hI hall hown hXs
                cases hok : fOk (p.mi M i) p.c a p.wr p.us p.wp with
                | true =>
                  have HC : Hid (Calls Tryz.prog 79 #[.pointer (some ⟨R.r, 0, none⟩), .int .u32 c.cr3, .int .u32 a, .agg #[.bool wt, .bool (!it), .bool c.wp]] W' _) := HFt.out hok W' HRr
                  have HWl : Hid (p.well M (i + 1)) := HAsk.out.2.2 HP.out.l hok
                  go_wp2_with fail
                  refine Calls.mono HC.out ?_; rintro e w6 ⟨pd, pt, bw, bu, rfl, hr6, k6⟩
                  clear HC
                  have kW := Kp.alloc noB w6 (.cells #[.int .u32 fr2, .int .u32 pd, .int .u32 pt, .bool bw, .bool bu] 145)
                  have rK : RowK (w6.alloc (.cells #[.int .u32 fr2, .int .u32 pd, .int .u32 pt, .bool bw, .bool bu] 145)) w6.heap.size fr2 pd pt bw bu := (MapKept.heap_alloc w6 _).1
                  have d0 := rK.c0
                  have hown : OwnU _ (X + 2) u14 (plL p M i) := (ho5.kp k6 (fun b hb f => by have := HX.out.1 b f; omega)).kp kW (fun _ _ f => f)
                  have hXs := Nat.le_trans hXs5 (Nat.le_trans k6.size kW.size)
                  have HR7 : Hid _ := hr6.kp kW (fun _ _ f => f)
                  have HK7 : Hid _ := k6.trans (kp_no kW)
                  obtain ⟨Y7, hY7⟩ : ∃ Y, Y = w6.heap.size := ⟨_, rfl⟩
                  obtain ⟨W7, hW7⟩ : ∃ W, W = w6.alloc (.cells #[.int .u32 fr2, .int .u32 pd, .int .u32 pt, .bool bw, .bool bu] 145) := ⟨_, rfl⟩
                  rw [← hW7] at rK d0 hown hXs HR7 HK7
                  rw [← hY7] at rK d0
                  unfold OwnU at hown
                  obtain ⟨x, hx⟩ : ∃ x, fr2 + a % 4096 = x := ⟨_, rfl⟩
                  have HE1 : Hid (x = p.pl M i) := by
                    unfold Pq.pl
                    rw [if_neg (by rw [HG.out]; simp), ← HFR2.out, ← HA.out, ← hx]
                    show fr2 + a % 4096 = _
                    omega
                  go_upto_region 12 with fail
                  rw [← hW7, ← hY7]
                  clear hW7 hY7 kW k6 hr6 rY z0 z1 z2 ho5 rT5 pA5 d66 HRr c64 c66 c64' rK hok
                  go_wp2_with (at_builtin; (refine wpList_append_own _ rfl _ _ 113 rfl (X + 2) 24 i0 (.int .u32 0) 1 4 slice32U hi0 hz0 hz1 hz2 rfl (by decide) _ _ _ rfl (hown.alloc _) ⟨W7.heap.size, 0, none⟩ 1 1 [.int .u32 x] rfl rfl (cell_one_new _ _ _) (by simp [Value.oneCell']) (by unfold maxLen; omega) (by omega) (by simp; omega) ?_; intro v' w5 hown' hgrow _))
                  have kg := kp_grownU (hown.alloc _) hgrow
                  go_roundg (n - j)
                  case measure => have := HJ.out; have := HK.out; omega
                  case rel =>
                    refine ⟨j, by rw [HJ.out]; rfl, by rw [HJ.out, HFR2.out], by rw [HN.out]; have := HJ.out; omega, by rw [HN.out]; exact Nat.le_refl _, ?_⟩
                    rw [HJ.out]
                    exact PlR.app HX.out.1 HX.out.2.1 HP.out (w3 := W7.alloc (.cells #[.int .u32 x] 24)) (HR7.out.kp (Kp.alloc noB _ _) (fun _ _ f => f)) ((kp_no HI.out.k).trans (HK7.out.trans (Kp.alloc _ _ _))) HWl.out HE1.out hown' kg
                | false =>
                  obtain ⟨hcd0, hF⟩ := HFf.out hok
                  have HC : Hid (Calls Tryz.prog 79 #[.pointer (some ⟨R.r, 0, none⟩), .int .u32 c.cr3, .int .u32 a, .agg #[.bool wt, .bool (!it), .bool c.wp]] W' _) := hF W' HRr
                  have HBd : Hid _ := HBad.out hok
                  go_wp2_with fail
                  refine Calls.mono HC.out ?_; rintro e w6 ⟨rfl, hr6, k6⟩
                  clear HC hF
                  have kW := Kp.alloc noB w6 (.cells #[.int .u32 0, .int .u32 0, .int .u32 0, .bool false, .bool false] 145)
                  have rT := (rT5.kp k6 (fun f => by have := HX.out.1 _ f; omega)).kp kW (fun f => f)
                  have HR7 : Hid _ := hr6.kp kW (fun _ _ f => f)
                  have HK7 : Hid _ := HK5.out.trans (k6.trans (kp_no kW))
                  obtain ⟨W7, hW7⟩ : ∃ W, W = w6.alloc (.cells #[.int .u32 0, .int .u32 0, .int .u32 0, .bool false, .bool false] 145) := ⟨_, rfl⟩
                  rw [← hW7] at rT HR7 HK7
                  go_upto_region 12 with fail
                  rw [← hW7]
                  clear hW7 kW k6 hr6 rY z0 z1 z2 ho5 rT5 pA5 d66 HRr c64 c66 c64' hok
                  obtain ⟨c0, c1, c2, f0, f1, f2⟩ : _ ∧ _ ∧ _ ∧ _ ∧ _ ∧ _ := ⟨rT.c0, rT.c1, rT.c2, rT.fz 0, rT.fz 1, rT.fz 2⟩
                  have r5 := rT.set ⟨14, cd, a⟩
                  have k7 := kp_setFt W7 (X + 1) ⟨14, cd, a⟩
                  obtain ⟨d0, d1, d2⟩ : _ ∧ _ ∧ _ := ⟨r5.c0, r5.c1, r5.c2⟩
                  have HR8 : Hid _ := HR7.out.kp k7 (fun j hj e => by have := HX.out.1 j hj; omega)
                  have HK8 : Hid _ := HK7.out.over k7 (fun j hj f => by have := HX.out.2.1; omega)
                  clear r5 k7
                  unfold setFt at *
                  have hcd1 : ¬ cd < 0 := by omega
                  go_wp2
                  refine bodyPost_ret (v := .tuple #[.slice none 0 0, .agg #[.int .i64 14, .int .i64 cd, .int .u32 a]]) (by simp [results, Tryz.results51, go_sem, d0, d1, d2]) rfl ⟨.slice none 0 0, ?_, ?_, ?_, ?_⟩
                  · unfold Qy.ft; rw [HBd.out.1, HCd.out]; rfl
                  · unfold PlcV; rw [HBd.out.1]
                  · rw [HBd.out.2]; exact HR8.out
                  · exact HK8.out
          · have HRw0 : Hid (∀ u, RwI wr X cs wt u c.wp 0 false false { wr with drawn := wr.drawn + 1 }) := fun u => RwI.new HP.out.c
            cases b3
            · skip
              go_upto_region 10 with fail
              refine OrdS.region_skip (τ := Nat) (fun t => [(.bool wt), (.agg cs), (.int .i64 r), (.bool false), (.bool false), undef, undef, (.bool false), (.pointer (some ⟨X, 64, none⟩)), (.int .u32 c.cr0), (.bool c.wp), (.agg #[.bool wt, .bool false, .bool c.wp]), (.pointer (some ⟨t, 0, none⟩)), undef]) (fun t listed w' => RwI wr X cs wt false c.wp t (listed.getD 12 false) (listed.getD 13 false) w') 0 (by kernel_rfl) (by kernel_rfl) (by kernel_rfl) (by kernel_rfl) (fun _ => rfl) (fun t => by simp only [OrdG.puts, Act.put, List.setIfInBounds_toArray, List.set_cons_zero, List.set_cons_succ]; rfl) (fun _ => by kernel_rfl) (fun t listed W' k hk hI => RwI.skip (fun h => hk _ (by subst h; rfl) rfl) (fun h => hk _ (by subst h; rfl) rfl) hI) (HRw0.out _) ?_ ?_
              · refine ⟨?_, ?_, ?_, ?_, ?_, ?_, ?_, ?_, ?_, ?_, ?_, ?_, ?_, ?_, trivial⟩
                all_goals (intro t listed W' hwt hz hSh hl hI hb KK hK hK0; change RwI wr X cs wt false c.wp t (listed.getD 12 false) (listed.getD 13 false) W' at hI; replace hz : listed.size = 14 := hz)
                · go_simp
                  exact hK0 _ (by show RwI wr X cs wt false c.wp t _ _ _; rw [getD_set_ne false (by decide), getD_set_ne false (by decide)]; exact hI)
                · have H1 : Hid _ := HV.out.get hI.p
                  have h1 := H1.out
                  go_simp
                  exact hK0 _ (by show RwI wr X cs wt false c.wp t _ _ _; rw [getD_set_ne false (by decide), getD_set_ne false (by decide)]; exact hI)
                · go_simp
                  refine Calls.mono (HRi.out _) ?_; rintro e z5 ⟨rfl, k5⟩
                  exact hK0 _ (by show RwI wr X cs wt false c.wp t _ _ _; rw [getD_set_ne false (by decide), getD_set_ne false (by decide)]; exact hI.kp k5)
                · go_simp
                  exact hK0 _ (by show RwI wr X cs wt false c.wp t _ _ _; rw [getD_set_ne false (by decide), getD_set_ne false (by decide)]; exact hI)
                · go_simp
                  exact hK0 _ (by show RwI wr X cs wt false c.wp t _ _ _; rw [getD_set_ne false (by decide), getD_set_ne false (by decide)]; exact hI)
                · refine False.elim (Bool.eq_false_iff.mp ?_ hwt)
                  kernel_rfl
                · refine False.elim (Bool.eq_false_iff.mp ?_ hwt)
                  kernel_rfl
                · go_simp
                  exact hK0 _ (by show RwI wr X cs wt false c.wp t _ _ _; rw [getD_set_ne false (by decide), getD_set_ne false (by decide)]; exact hI)
                · go_simp
                  exact hK0 _ (by show RwI wr X cs wt false c.wp t _ _ _; rw [getD_set_ne false (by decide), getD_set_ne false (by decide)]; exact hI)
                · have h1 := hI.p.cell HC0.out.1
                  go_simp
                  exact hK0 _ (by show RwI wr X cs wt false c.wp t _ _ _; rw [getD_set_ne false (by decide), getD_set_ne false (by decide)]; exact hI)
                · go_simp
                  refine Calls.mono (HW.out _) ?_; rintro e z5 ⟨rfl, hz5⟩
                  subst hz5
                  exact hK0 _ (by show RwI wr X cs wt false c.wp t _ _ _; rw [getD_set_ne false (by decide), getD_set_ne false (by decide)]; exact hI)
                · go_simp
                  exact hK0 _ (by show RwI wr X cs wt false c.wp t _ _ _; rw [getD_set_ne false (by decide), getD_set_ne false (by decide)]; exact hI)
                · have n13 := OrdG.shut_no (j := 13) hSh hl (by kernel_rfl)
                  rw [hl, n13] at hI
                  go_simp
                  refine hK _ _ ⟨W'.heap.size, rfl, OrdG.vals_one rfl hl, ?_⟩
                  show RwI wr X cs wt false c.wp _ (Array.getD _ 12 false) (Array.getD _ 13 false) _
                  rw [OrdG.getD_self hz (by decide), getD_set_ne false (by decide), n13]
                  exact hI.al
                · have y12 := OrdG.on_of (i := 12) hb (by kernel_rfl)
                  rw [y12, hl] at hI
                  obtain ⟨r0, rz⟩ := hI.a rfl rfl
                  obtain ⟨z0, z1, z2, y0, y1, y2⟩ : _ ∧ _ ∧ _ ∧ _ ∧ _ ∧ _ := ⟨rz.c0, rz.c1, rz.c2, frozen_at (o := 0) rz, frozen_at (o := 1) rz, frozen_at (o := 2) rz⟩
                  go_simp
                  refine hK0 _ ?_
                  show RwI wr X cs wt false c.wp t (Array.getD _ 12 false) (Array.getD _ 13 false) _
                  rw [OrdG.getD_self hz (by decide), getD_set_ne false (by decide), y12]
                  exact hI.st
              · intro t listed W' hall hI
                change RwI wr X cs wt false c.wp t (listed.getD 12 false) (listed.getD 13 false) W' at hI
                have hY := hI.s (hall 13 (by show 13 < 14; decide))
                have HI : Hid (RwI wr X cs wt false c.wp t (listed.getD 12 false) (listed.getD 13 false) W') := hI
                obtain ⟨hY0, rY⟩ := hY
                have z0 := rY.c0; have z1 := rY.c1; have z2 := rY.c2
                have d66 := HI.out.p.cell HC0.out.2
                have HRr := HP.out.r.kp HI.out.k (fun _ _ f => f)
                have HK5 : Hid _ := HP.out.k.trans (kp_no HI.out.k)
                have ho5 := HP.out.o.kp HI.out.k (fun _ _ f => f)
                have rT5 := HP.out.t.kp HI.out.k (fun f => f)
                have pA5 := HI.out.p
                have hXs5 := Nat.le_trans hXs HI.out.k.size
                have HYs : Hid (wr.heap.size ≤ W'.heap.size) := HI.out.k.size
                clear hI hall hown hXs
                cases hok : fOk (p.mi M i) p.c a p.wr p.us p.wp with
                | true =>
                  have HC : Hid (Calls Tryz.prog 79 #[.pointer (some ⟨R.r, 0, none⟩), .int .u32 c.cr3, .int .u32 a, .agg #[.bool wt, .bool false, .bool c.wp]] W' _) := HFt.out hok W' HRr
                  have HWl : Hid (p.well M (i + 1)) := HAsk.out.2.2 HP.out.l hok
                  go_wp2_with fail
                  refine Calls.mono HC.out ?_; rintro e w6 ⟨pd, pt, bw, bu, rfl, hr6, k6⟩
                  clear HC
                  have kW := Kp.alloc noB w6 (.cells #[.int .u32 fr2, .int .u32 pd, .int .u32 pt, .bool bw, .bool bu] 145)
                  have rK : RowK (w6.alloc (.cells #[.int .u32 fr2, .int .u32 pd, .int .u32 pt, .bool bw, .bool bu] 145)) w6.heap.size fr2 pd pt bw bu := (MapKept.heap_alloc w6 _).1
                  have d0 := rK.c0
                  have hown : OwnU _ (X + 2) u14 (plL p M i) := (ho5.kp k6 (fun b hb f => by have := HX.out.1 b f; omega)).kp kW (fun _ _ f => f)
                  have hXs := Nat.le_trans hXs5 (Nat.le_trans k6.size kW.size)
                  have HR7 : Hid _ := hr6.kp kW (fun _ _ f => f)
                  have HK7 : Hid _ := k6.trans (kp_no kW)
                  obtain ⟨Y7, hY7⟩ : ∃ Y, Y = w6.heap.size := ⟨_, rfl⟩
                  obtain ⟨W7, hW7⟩ : ∃ W, W = w6.alloc (.cells #[.int .u32 fr2, .int .u32 pd, .int .u32 pt, .bool bw, .bool bu] 145) := ⟨_, rfl⟩
                  rw [← hW7] at rK d0 hown hXs HR7 HK7
                  rw [← hY7] at rK d0
                  unfold OwnU at hown
                  obtain ⟨x, hx⟩ : ∃ x, fr2 + a % 4096 = x := ⟨_, rfl⟩
                  have HE1 : Hid (x = p.pl M i) := by
                    unfold Pq.pl
                    rw [if_neg (by rw [HG.out]; simp), ← HFR2.out, ← HA.out, ← hx]
                    show fr2 + a % 4096 = _
                    omega
                  go_upto_region 12 with fail
                  rw [← hW7, ← hY7]
                  clear hW7 hY7 kW k6 hr6 rY z0 z1 z2 ho5 rT5 pA5 d66 HRr c64 c66 c64' rK hok
                  go_wp2_with (at_builtin; (refine wpList_append_own _ rfl _ _ 113 rfl (X + 2) 24 i0 (.int .u32 0) 1 4 slice32U hi0 hz0 hz1 hz2 rfl (by decide) _ _ _ rfl (hown.alloc _) ⟨W7.heap.size, 0, none⟩ 1 1 [.int .u32 x] rfl rfl (cell_one_new _ _ _) (by simp [Value.oneCell']) (by unfold maxLen; omega) (by omega) (by simp; omega) ?_; intro v' w5 hown' hgrow _))
                  have kg := kp_grownU (hown.alloc _) hgrow
                  go_roundg (n - j)
                  case measure => have := HJ.out; have := HK.out; omega
                  case rel =>
                    refine ⟨j, by rw [HJ.out]; rfl, by rw [HJ.out, HFR2.out], by rw [HN.out]; have := HJ.out; omega, by rw [HN.out]; exact Nat.le_refl _, ?_⟩
                    rw [HJ.out]
                    exact PlR.app HX.out.1 HX.out.2.1 HP.out (w3 := W7.alloc (.cells #[.int .u32 x] 24)) (HR7.out.kp (Kp.alloc noB _ _) (fun _ _ f => f)) ((kp_no HI.out.k).trans (HK7.out.trans (Kp.alloc _ _ _))) HWl.out HE1.out hown' kg
                | false =>
                  obtain ⟨hcd0, hF⟩ := HFf.out hok
                  have HC : Hid (Calls Tryz.prog 79 #[.pointer (some ⟨R.r, 0, none⟩), .int .u32 c.cr3, .int .u32 a, .agg #[.bool wt, .bool false, .bool c.wp]] W' _) := hF W' HRr
                  have HBd : Hid _ := HBad.out hok
                  go_wp2_with fail
                  refine Calls.mono HC.out ?_; rintro e w6 ⟨rfl, hr6, k6⟩
                  clear HC hF
                  have kW := Kp.alloc noB w6 (.cells #[.int .u32 0, .int .u32 0, .int .u32 0, .bool false, .bool false] 145)
                  have rT := (rT5.kp k6 (fun f => by have := HX.out.1 _ f; omega)).kp kW (fun f => f)
                  have HR7 : Hid _ := hr6.kp kW (fun _ _ f => f)
                  have HK7 : Hid _ := HK5.out.trans (k6.trans (kp_no kW))
                  obtain ⟨W7, hW7⟩ : ∃ W, W = w6.alloc (.cells #[.int .u32 0, .int .u32 0, .int .u32 0, .bool false, .bool false] 145) := ⟨_, rfl⟩
                  rw [← hW7] at rT HR7 HK7
                  go_upto_region 12 with fail
                  rw [← hW7]
                  clear hW7 kW k6 hr6 rY z0 z1 z2 ho5 rT5 pA5 d66 HRr c64 c66 c64' hok
                  obtain ⟨c0, c1, c2, f0, f1, f2⟩ : _ ∧ _ ∧ _ ∧ _ ∧ _ ∧ _ := ⟨rT.c0, rT.c1, rT.c2, rT.fz 0, rT.fz 1, rT.fz 2⟩
                  have r5 := rT.set ⟨14, cd, a⟩
                  have k7 := kp_setFt W7 (X + 1) ⟨14, cd, a⟩
                  obtain ⟨d0, d1, d2⟩ : _ ∧ _ ∧ _ := ⟨r5.c0, r5.c1, r5.c2⟩
                  have HR8 : Hid _ := HR7.out.kp k7 (fun j hj e => by have := HX.out.1 j hj; omega)
                  have HK8 : Hid _ := HK7.out.over k7 (fun j hj f => by have := HX.out.2.1; omega)
                  clear r5 k7
                  unfold setFt at *
                  have hcd1 : ¬ cd < 0 := by omega
                  go_wp2
                  refine bodyPost_ret (v := .tuple #[.slice none 0 0, .agg #[.int .i64 14, .int .i64 cd, .int .u32 a]]) (by simp [results, Tryz.results51, go_sem, d0, d1, d2]) rfl ⟨.slice none 0 0, ?_, ?_, ?_, ?_⟩
                  · unfold Qy.ft; rw [HBd.out.1, HCd.out]; rfl
                  · unfold PlcV; rw [HBd.out.1]
                  · rw [HBd.out.2]; exact HR8.out
                  · exact HK8.out
            · skip
              go_upto_region 10 with fail
              refine OrdS.region_skip (τ := Nat) (fun t => [(.bool wt), (.agg cs), (.int .i64 r), (.bool true), (.bool true), (.bool it), (.bool (!it)), (.bool (!it)), (.pointer (some ⟨X, 64, none⟩)), (.int .u32 c.cr0), (.bool c.wp), (.agg #[.bool wt, .bool (!it), .bool c.wp]), (.pointer (some ⟨t, 0, none⟩)), undef]) (fun t listed w' => RwI wr X cs wt (!it) c.wp t (listed.getD 12 false) (listed.getD 13 false) w') 0 (by kernel_rfl) (by kernel_rfl) (by kernel_rfl) (by kernel_rfl) (fun _ => rfl) (fun t => by simp only [OrdG.puts, Act.put, List.setIfInBounds_toArray, List.set_cons_zero, List.set_cons_succ]; rfl) (fun _ => by kernel_rfl) (fun t listed W' k hk hI => RwI.skip (fun h => hk _ (by subst h; rfl) rfl) (fun h => hk _ (by subst h; rfl) rfl) hI) (HRw0.out _) ?_ ?_
              · refine ⟨?_, ?_, ?_, ?_, ?_, ?_, ?_, ?_, ?_, ?_, ?_, ?_, ?_, ?_, trivial⟩
                all_goals (intro t listed W' hwt hz hSh hl hI hb KK hK hK0; change RwI wr X cs wt (!it) c.wp t (listed.getD 12 false) (listed.getD 13 false) W' at hI; replace hz : listed.size = 14 := hz)
                · go_simp
                  exact hK0 _ (by show RwI wr X cs wt (!it) c.wp t _ _ _; rw [getD_set_ne false (by decide), getD_set_ne false (by decide)]; exact hI)
                · have H1 : Hid _ := HV.out.get hI.p
                  have h1 := H1.out
                  go_simp
                  exact hK0 _ (by show RwI wr X cs wt (!it) c.wp t _ _ _; rw [getD_set_ne false (by decide), getD_set_ne false (by decide)]; exact hI)
                · go_simp
                  refine Calls.mono (HRi.out _) ?_; rintro e z5 ⟨rfl, k5⟩
                  exact hK0 _ (by show RwI wr X cs wt (!it) c.wp t _ _ _; rw [getD_set_ne false (by decide), getD_set_ne false (by decide)]; exact hI.kp k5)
                · go_simp
                  exact hK0 _ (by show RwI wr X cs wt (!it) c.wp t _ _ _; rw [getD_set_ne false (by decide), getD_set_ne false (by decide)]; exact hI)
                · go_simp
                  exact hK0 _ (by show RwI wr X cs wt (!it) c.wp t _ _ _; rw [getD_set_ne false (by decide), getD_set_ne false (by decide)]; exact hI)
                · go_simp
                  exact hK0 _ (by show RwI wr X cs wt (!it) c.wp t _ _ _; rw [getD_set_ne false (by decide), getD_set_ne false (by decide)]; exact hI)
                · go_simp
                  exact hK0 _ (by show RwI wr X cs wt (!it) c.wp t _ _ _; rw [getD_set_ne false (by decide), getD_set_ne false (by decide)]; exact hI)
                · go_simp
                  exact hK0 _ (by show RwI wr X cs wt (!it) c.wp t _ _ _; rw [getD_set_ne false (by decide), getD_set_ne false (by decide)]; exact hI)
                · go_simp
                  exact hK0 _ (by show RwI wr X cs wt (!it) c.wp t _ _ _; rw [getD_set_ne false (by decide), getD_set_ne false (by decide)]; exact hI)
                · have h1 := hI.p.cell HC0.out.1
                  go_simp
                  exact hK0 _ (by show RwI wr X cs wt (!it) c.wp t _ _ _; rw [getD_set_ne false (by decide), getD_set_ne false (by decide)]; exact hI)
                · go_simp
                  refine Calls.mono (HW.out _) ?_; rintro e z5 ⟨rfl, hz5⟩
                  subst hz5
                  exact hK0 _ (by show RwI wr X cs wt (!it) c.wp t _ _ _; rw [getD_set_ne false (by decide), getD_set_ne false (by decide)]; exact hI)
                · go_simp
                  exact hK0 _ (by show RwI wr X cs wt (!it) c.wp t _ _ _; rw [getD_set_ne false (by decide), getD_set_ne false (by decide)]; exact hI)
                · have n13 := OrdG.shut_no (j := 13) hSh hl (by kernel_rfl)
                  rw [hl, n13] at hI
                  go_simp
                  refine hK _ _ ⟨W'.heap.size, rfl, OrdG.vals_one rfl hl, ?_⟩
                  show RwI wr X cs wt (!it) c.wp _ (Array.getD _ 12 false) (Array.getD _ 13 false) _
                  rw [OrdG.getD_self hz (by decide), getD_set_ne false (by decide), n13]
                  exact hI.al
                · have y12 := OrdG.on_of (i := 12) hb (by kernel_rfl)
                  rw [y12, hl] at hI
                  obtain ⟨r0, rz⟩ := hI.a rfl rfl
                  obtain ⟨z0, z1, z2, y0, y1, y2⟩ : _ ∧ _ ∧ _ ∧ _ ∧ _ ∧ _ := ⟨rz.c0, rz.c1, rz.c2, frozen_at (o := 0) rz, frozen_at (o := 1) rz, frozen_at (o := 2) rz⟩
                  go_simp
                  refine hK0 _ ?_
                  show RwI wr X cs wt (!it) c.wp t (Array.getD _ 12 false) (Array.getD _ 13 false) _
                  rw [OrdG.getD_self hz (by decide), getD_set_ne false (by decide), y12]
                  exact hI.st
              · intro t listed W' hall hI
                change RwI wr X cs wt (!it) c.wp t (listed.getD 12 false) (listed.getD 13 false) W' at hI
                have hY := hI.s (hall 13 (by show 13 < 14; decide))
                have HI : Hid (RwI wr X cs wt (!it) c.wp t (listed.getD 12 false) (listed.getD 13 false) W') := hI
                obtain ⟨hY0, rY⟩ := hY
                have z0 := rY.c0; have z1 := rY.c1; have z2 := rY.c2
                have d66 := HI.out.p.cell HC0.out.2
                have HRr := HP.out.r.kp HI.out.k (fun _ _ f => f)
                have HK5 : Hid _ := HP.out.k.trans (kp_no HI.out.k)
                have ho5 := HP.out.o.kp HI.out.k (fun _ _ f => f)
                have rT5 := HP.out.t.kp HI.out.k (fun f => f)
                have pA5 := HI.out.p
                have hXs5 := Nat.le_trans hXs HI.out.k.size
                have HYs : Hid (wr.heap.size ≤ W'.heap.size) := HI.out.k.size
                clear hI hall hown hXs
                cases hok : fOk (p.mi M i) p.c a p.wr p.us p.wp with
                | true =>
                  have HC : Hid (Calls Tryz.prog 79 #[.pointer (some ⟨R.r, 0, none⟩), .int .u32 c.cr3, .int .u32 a, .agg #[.bool wt, .bool (!it), .bool c.wp]] W' _) := HFt.out hok W' HRr
                  have HWl : Hid (p.well M (i + 1)) := HAsk.out.2.2 HP.out.l hok
                  go_wp2_with fail
                  refine Calls.mono HC.out ?_; rintro e w6 ⟨pd, pt, bw, bu, rfl, hr6, k6⟩
                  clear HC
                  have kW := Kp.alloc noB w6 (.cells #[.int .u32 fr2, .int .u32 pd, .int .u32 pt, .bool bw, .bool bu] 145)
                  have rK : RowK (w6.alloc (.cells #[.int .u32 fr2, .int .u32 pd, .int .u32 pt, .bool bw, .bool bu] 145)) w6.heap.size fr2 pd pt bw bu := (MapKept.heap_alloc w6 _).1
                  have d0 := rK.c0
                  have hown : OwnU _ (X + 2) u14 (plL p M i) := (ho5.kp k6 (fun b hb f => by have := HX.out.1 b f; omega)).kp kW (fun _ _ f => f)
                  have hXs := Nat.le_trans hXs5 (Nat.le_trans k6.size kW.size)
                  have HR7 : Hid _ := hr6.kp kW (fun _ _ f => f)
                  have HK7 : Hid _ := k6.trans (kp_no kW)
                  obtain ⟨Y7, hY7⟩ : ∃ Y, Y = w6.heap.size := ⟨_, rfl⟩
                  obtain ⟨W7, hW7⟩ : ∃ W, W = w6.alloc (.cells #[.int .u32 fr2, .int .u32 pd, .int .u32 pt, .bool bw, .bool bu] 145) := ⟨_, rfl⟩
                  rw [← hW7] at rK d0 hown hXs HR7 HK7
                  rw [← hY7] at rK d0
                  unfold OwnU at hown
                  obtain ⟨x, hx⟩ : ∃ x, fr2 + a % 4096 = x := ⟨_, rfl⟩
                  have HE1 : Hid (x = p.pl M i) := by
                    unfold Pq.pl
                    rw [if_neg (by rw [HG.out]; simp), ← HFR2.out, ← HA.out, ← hx]
                    show fr2 + a % 4096 = _
                    omega
                  go_upto_region 12 with fail
                  rw [← hW7, ← hY7]
                  clear hW7 hY7 kW k6 hr6 rY z0 z1 z2 ho5 rT5 pA5 d66 HRr c64 c66 c64' rK hok
                  go_wp2_with (at_builtin; (refine wpList_append_own _ rfl _ _ 113 rfl (X + 2) 24 i0 (.int .u32 0) 1 4 slice32U hi0 hz0 hz1 hz2 rfl (by decide) _ _ _ rfl (hown.alloc _) ⟨W7.heap.size, 0, none⟩ 1 1 [.int .u32 x] rfl rfl (cell_one_new _ _ _) (by simp [Value.oneCell']) (by unfold maxLen; omega) (by omega) (by simp; omega) ?_; intro v' w5 hown' hgrow _))
                  have kg := kp_grownU (hown.alloc _) hgrow
                  go_roundg (n - j)
                  case measure => have := HJ.out; have := HK.out; omega
                  case rel =>
                    refine ⟨j, by rw [HJ.out]; rfl, by rw [HJ.out, HFR2.out], by rw [HN.out]; have := HJ.out; omega, by rw [HN.out]; exact Nat.le_refl _, ?_⟩
                    rw [HJ.out]
                    exact PlR.app HX.out.1 HX.out.2.1 HP.out (w3 := W7.alloc (.cells #[.int .u32 x] 24)) (HR7.out.kp (Kp.alloc noB _ _) (fun _ _ f => f)) ((kp_no HI.out.k).trans (HK7.out.trans (Kp.alloc _ _ _))) HWl.out HE1.out hown' kg
                | false =>
                  obtain ⟨hcd0, hF⟩ := HFf.out hok
                  have HC : Hid (Calls Tryz.prog 79 #[.pointer (some ⟨R.r, 0, none⟩), .int .u32 c.cr3, .int .u32 a, .agg #[.bool wt, .bool (!it), .bool c.wp]] W' _) := hF W' HRr
                  have HBd : Hid _ := HBad.out hok
                  go_wp2_with fail
                  refine Calls.mono HC.out ?_; rintro e w6 ⟨rfl, hr6, k6⟩
                  clear HC hF
                  have kW := Kp.alloc noB w6 (.cells #[.int .u32 0, .int .u32 0, .int .u32 0, .bool false, .bool false] 145)
                  have rT := (rT5.kp k6 (fun f => by have := HX.out.1 _ f; omega)).kp kW (fun f => f)
                  have HR7 : Hid _ := hr6.kp kW (fun _ _ f => f)
                  have HK7 : Hid _ := HK5.out.trans (k6.trans (kp_no kW))
                  obtain ⟨W7, hW7⟩ : ∃ W, W = w6.alloc (.cells #[.int .u32 0, .int .u32 0, .int .u32 0, .bool false, .bool false] 145) := ⟨_, rfl⟩
                  rw [← hW7] at rT HR7 HK7
                  go_upto_region 12 with fail
                  rw [← hW7]
                  clear hW7 kW k6 hr6 rY z0 z1 z2 ho5 rT5 pA5 d66 HRr c64 c66 c64' hok
                  obtain ⟨c0, c1, c2, f0, f1, f2⟩ : _ ∧ _ ∧ _ ∧ _ ∧ _ ∧ _ := ⟨rT.c0, rT.c1, rT.c2, rT.fz 0, rT.fz 1, rT.fz 2⟩
                  have r5 := rT.set ⟨14, cd, a⟩
                  have k7 := kp_setFt W7 (X + 1) ⟨14, cd, a⟩
                  obtain ⟨d0, d1, d2⟩ : _ ∧ _ ∧ _ := ⟨r5.c0, r5.c1, r5.c2⟩
                  have HR8 : Hid _ := HR7.out.kp k7 (fun j hj e => by have := HX.out.1 j hj; omega)
                  have HK8 : Hid _ := HK7.out.over k7 (fun j hj f => by have := HX.out.2.1; omega)
                  clear r5 k7
                  unfold setFt at *
                  have hcd1 : ¬ cd < 0 := by omega
                  go_wp2
                  refine bodyPost_ret (v := .tuple #[.slice none 0 0, .agg #[.int .i64 14, .int .i64 cd, .int .u32 a]]) (by simp [results, Tryz.results51, go_sem, d0, d1, d2]) rfl ⟨.slice none 0 0, ?_, ?_, ?_, ?_⟩
                  · unfold Qy.ft; rw [HBd.out.1, HCd.out]; rfl
                  · unfold PlcV; rw [HBd.out.1]
                  · rw [HBd.out.2]; exact HR8.out
                  · exact HK8.out
    · have hz : ¬ (i : Int) < (n : Int) := by omega
      obtain rfl : i = n := by omega
      have hgd := p.good HO.out HB.out (by rw [hpn]; exact hP.l)
      rw [hpn] at hgd
      have HP : Hid (PlR w R p M cs X i u14 wr) := hP
      have hN1 : 1 ≤ i := by have := HO.out.n1; rw [hpn] at this; omega
      have HN1 : Hid (1 ≤ i) := hN1
      have HGd : Hid _ := hgd
      clear hgd hP hik hpn hpa hpg hN1
      go_wp2_with fail
      refine (hN.out _).mono ?_; rintro e w4 ⟨rfl, k4⟩
      have r4 := HP.out.t.kp k4 (fun f => f)
      obtain ⟨c0, c1, c2, f0, f1, f2⟩ : _ ∧ _ ∧ _ ∧ _ ∧ _ ∧ _ := ⟨r4.c0, r4.c1, r4.c2, r4.fz 0, r4.fz 1, r4.fz 2⟩
      have r5 := r4.set noFt
      have k5 := kp_setFt w4 (X + 1) noFt
      obtain ⟨d0, d1, d2⟩ : _ ∧ _ ∧ _ := ⟨r5.c0, r5.c1, r5.c2⟩
      have k6 : Kp R.has w (setFt w4 (X + 1) noFt) := (HP.out.k.trans (kp_no k4)).over k5 (fun j hj f => by have := HX.out.2.1; omega)
      clear r5
      unfold setFt noFt at *
      go_wp2
      refine bodyPost_ret (v := .tuple #[u14, .agg #[.int .i64 (-1), .int .i64 (-1), .int .u32 0]]) (by simp [results, Tryz.results51, go_sem, d0, d1, d2]) rfl ⟨u14, by unfold Qy.ft; rw [HGd.out.1]; rfl, HP.out.done HN1.out HX.out.1 HX.out.2.1 HGd.out ((k4.mono (fun _ _ f => f.elim)).trans k5)⟩
end Go.Proofs.YtmmnnafjikilpaaGreat
