/- The document's own memory: the calls that write it. -/
import Derived.Test.YtmmnnafjikilpaaRefBase
namespace Go.Proofs.Ytmmnnafjikilpaa
open Go.ChangeShapes Go.WideShapes Go.ChangeAt Go.RowKit Go.Maps
set_option linter.unusedVariables false

theorem has_r (R : Rf) : R.has R.r := .inl rfl
theorem has_b (R : Rf) : R.has R.b := .inr (.inl rfl)
theorem has_o (R : Rf) : R.has R.o := .inr (.inr (.inl rfl))
theorem has_t (R : Rf) : R.has R.t := .inr (.inr (.inr (.inl rfl)))
theorem has_q (R : Rf) : R.has R.q := .inr (.inr (.inr (.inr rfl)))

theorem RefAt.byte {w : World} {R : Rf} {M : Mem} (h : RefAt w R M) {i : Nat} (hi : i < 4096 * M.n) (v : Int) : RefAt (w.setCell ⟨R.b, i, none⟩ (.int .u8 v)) R { M with byte := fun x => if x = i then v else M.byte x } where
  le := h.le
  ap := h.ap
  st := (heap_set_other h.ap.rb).trans h.st
  cb := (h.cb.set hi _).as (fun j hj => by by_cases e : j = i <;> simp [e])
  co := h.co.heap (heap_set_other (fun e => h.ap.bo e.symm))
  ct := h.ct.heap (heap_set_other (fun e => h.ap.bt e.symm))
  cq := h.cq.heap (heap_set_other (fun e => h.ap.bq e.symm))

theorem RefAt.setOnly {w : World} {R : Rf} {M : Mem} (h : RefAt w R M) {i : Nat} (hi : i < M.n) (b : Bool) : RefAt (w.setCell ⟨R.o, i, none⟩ (.bool b)) R { M with only := fun x => if x = i then b else M.only x } where
  le := h.le
  ap := h.ap
  st := (heap_set_other h.ap.ro).trans h.st
  cb := h.cb.heap (heap_set_other h.ap.bo)
  co := (h.co.set hi _).as (fun j hj => by by_cases e : j = i <;> simp [e])
  ct := h.ct.heap (heap_set_other (fun e => h.ap.ot e.symm))
  cq := h.cq.heap (heap_set_other (fun e => h.ap.oq e.symm))

theorem RefAt.setWt {w : World} {R : Rf} {M : Mem} (h : RefAt w R M) {i : Nat} (hi : i < 64 * M.n) (b : Bool) (f : Int → Bool) (hf : ∀ j : Nat, j < 64 * M.n → f (64 * j) = if j = i then b else M.wt (64 * j)) : RefAt (w.setCell ⟨R.t, i, none⟩ (.bool b)) R { M with wt := f } where
  le := h.le
  ap := h.ap
  st := (heap_set_other h.ap.rt).trans h.st
  cb := h.cb.heap (heap_set_other h.ap.bt)
  co := h.co.heap (heap_set_other h.ap.ot)
  ct := (h.ct.set hi _).as (fun j hj => by show _ = Value.bool (f (64 * j)); rw [hf j hj]; by_cases e : j = i <;> simp [e])
  cq := h.cq.heap (heap_set_other (fun e => h.ap.tq e.symm))

theorem RefAt.setNt {w : World} {R : Rf} {M : Mem} (h : RefAt w R M) {i : Nat} (hi : i < 64 * M.n) (b : Bool) (f : Int → Bool) (hf : ∀ j : Nat, j < 64 * M.n → f (64 * j) = if j = i then b else M.nt (64 * j)) : RefAt (w.setCell ⟨R.q, i, none⟩ (.bool b)) R { M with nt := f } where
  le := h.le
  ap := h.ap
  st := (heap_set_other h.ap.rq).trans h.st
  cb := h.cb.heap (heap_set_other h.ap.bq)
  co := h.co.heap (heap_set_other h.ap.oq)
  ct := h.ct.heap (heap_set_other h.ap.tq)
  cq := (h.cq.set hi _).as (fun j hj => by show _ = Value.bool (f (64 * j)); rw [hf j hj]; by_cases e : j = i <;> simp [e])

theorem RefAt.as {w : World} {R : Rf} {M M' : Mem} (h : RefAt w R M) (e : M = M') : RefAt w R M' := e ▸ h

theorem kp_has {w w' : World} {R : Rf} {k i : Nat} (h : Kp R.has w w') (hk : R.has k) (v : Value) : Kp R.has w (w'.setCell ⟨k, i, none⟩ v) := h.trans (Kp.setCell (S := R.has) w' (p := ⟨k, i, none⟩) hk v)

theorem kp_no {S : Nat → Prop} {w w' : World} (h : Kp noB w w') : Kp S w w' := h.mono (fun _ _ f => f.elim)

set_option maxRecDepth 100000 in
theorem refRom_ok (w : World) (R : Rf) (M : Mem) (h : RefAt w R M) (i : Nat) (b : Bool) (hi : i < M.n) :
    Calls Try.prog 29 #[.pointer (some ⟨R.r, 0, none⟩), .int .i64 i, .bool b] w fun e w' => e = .returned (.int .i64 0) ∧ RefAt w' R { M with only := fun j => if j = i then b else M.only j } ∧ Kp R.has w w' := by
  have c1 := h.c1
  have cc := h.co.cell hi
  have cf := h.co.frozen i
  have hlt : (i : Int) < (M.n : Int) := by omega
  have hle := h.le
  have Rr := h.setOnly hi b
  have K := kp_has (i := i) (Kp.refl _ w) (has_o R) (.bool b)
  obtain ⟨n, hn⟩ : ∃ n, n = M.n := ⟨_, rfl⟩
  rw [← hn] at c1 hlt hle
  clear hn hi h
  go_enter Try.func29, Try.ntmps29
  go_wp2
  go_ret
  exact ⟨rfl, Rr, K⟩

set_option maxRecDepth 100000 in
theorem refRom_no (w : World) (R : Rf) (M : Mem) (h : RefAt w R M) (i : Int) (b : Bool) (hi : i < 0 ∨ M.n ≤ i) :
    Calls Try.prog 29 #[.pointer (some ⟨R.r, 0, none⟩), .int .i64 i, .bool b] w fun e w' => e = .returned (.int .i64 1) ∧ w' = w := by
  have c1 := h.c1
  have hle := h.le
  obtain ⟨n, hn⟩ : ∃ n, n = M.n := ⟨_, rfl⟩
  rw [← hn] at c1 hle hi
  clear hn h
  by_cases h0 : i < 0
  · go_enter Try.func29, Try.ntmps29
    go_wp2
    go_ret
    exact ⟨rfl, rfl⟩
  · have h1 : (n : Int) ≤ i := by omega
    go_enter Try.func29, Try.ntmps29
    go_wp2
    go_ret
    exact ⟨rfl, rfl⟩

theorem RefAt.like {w : World} {R : Rf} {M M' : Mem} (h : RefAt w R M) (hn : M'.n = M.n) (hc : M'.closed = M.closed) (hb : ∀ j, j < 4096 * M.n → M'.byte j = M.byte j) (ho : ∀ j, j < M.n → M'.only j = M.only j)
    (hw : ∀ j : Nat, j < 64 * M.n → M'.wt (64 * j) = M.wt (64 * j)) (ht : ∀ j : Nat, j < 64 * M.n → M'.nt (64 * j) = M.nt (64 * j)) : RefAt w R M' where
  le := by rw [hn]; exact h.le
  ap := h.ap
  st := by rw [hn, hc]; exact h.st
  cb := by rw [hn]; exact h.cb.as (fun j hj => by rw [hb j hj])
  co := by rw [hn]; exact h.co.as (fun j hj => by rw [ho j hj])
  ct := by rw [hn]; exact h.ct.as (fun j hj => by rw [hw j hj])
  cq := by rw [hn]; exact h.cq.as (fun j hj => by rw [ht j hj])

theorem in_gran (j g : Nat) : decide ((64 * g : Int) ≤ 64 * j ∧ (64 * j : Int) < 64 * g + 64) = decide (j = g) := decide_eq_decide.2 ⟨fun f => by omega, fun f => by omega⟩

def PutPost (w : World) (R : Rf) (M' : Mem) (e : Ending) (w' : World) : Prop := e = .returned (.tuple #[]) ∧ RefAt w' R M' ∧ Kp R.has w w'

set_option maxRecDepth 100000 in
set_option maxHeartbeats 1000000 in
theorem refPut_any (w : World) (R : Rf) (M : Mem) (h : RefAt w R M) (x v : Int) (all : Bool) (x0 : 0 ≤ x) (x1 : x < 4294967296) :
    Calls Try.prog 48 #[.pointer (some ⟨R.r, 0, none⟩), .int .u32 x, .int .u8 v, .bool all] w (PutPost w R (M.put all x v)) := by
  have pb := M.place_bd x0 x1
  have cP := refPlace_any w R M h x x0 x1
  have hle := h.le
  have hput : M.put all x v = if M.place x < 4096 * M.n ∧ (all = true ∨ M.only (M.place x / 4096).toNat = false) then
    { M.note (M.place x - M.place x % 64) (M.place x - M.place x % 64 + 64) with byte := fun y => if y = (M.place x).toNat then v else M.byte y } else M := rfl
  obtain ⟨pl, hpl⟩ : ∃ pl : Nat, M.place x = pl := ⟨(M.place x).toNat, by omega⟩
  rw [hpl] at cP pb hput
  clear hpl
  by_cases hin : (pl : Int) < 4096 * M.n
  · rw [decide_eq_true hin] at cP
    obtain ⟨pg, hpg⟩ : ∃ pg : Nat, pg = pl / 4096 := ⟨_, rfl⟩
    have eg : (pl : Int) / 4096 = (pg : Int) := by omega
    have et : Int.tdiv (pl : Int) 4096 = (pg : Int) := by rw [hpg]; rfl
    have pgl : pg < M.n := by omega
    have epn : ((pl : Int) / 4096).toNat = pg := by omega
    rw [epn] at hput
    obtain ⟨n, hn⟩ : ∃ n : Nat, n = M.n := ⟨_, rfl⟩
    have bpg : (pg : Int) < (n : Int) := by omega
    clear hpg epn
    by_cases hgo : all = true ∨ M.only pg = false
    · rw [if_pos ⟨hin, hgo⟩] at hput
      obtain ⟨g, hg⟩ : ∃ g : Nat, g = pl / 64 := ⟨_, rfl⟩
      have fg : (pl : Int) / 64 = (g : Int) := by omega
      have ft : Int.tdiv (pl : Int) 64 = (g : Int) := by rw [hg]; rfl
      have gl : g < 64 * M.n := by omega
      have ew : (pl : Int) - (pl : Int) % 64 = (64 * g : Int) := by omega
      have epl : ((pl : Nat) : Int).toNat = pl := by omega
      rw [ew, epl] at hput
      rw [hput]
      clear hg ew epl hput
      obtain ⟨N, hN⟩ : ∃ N : Nat, N = 4096 * M.n := ⟨_, rfl⟩
      obtain ⟨K, hK⟩ : ∃ K : Nat, K = 64 * M.n := ⟨_, rfl⟩
      have bpl : (pl : Int) < (N : Int) := by omega
      have bg : (g : Int) < (K : Int) := by omega
      have hplN : pl < 4096 * M.n := by omega
      by_cases hwt : M.wt (64 * g) = false
      · skip
        go_enter Try.func48, Try.ntmps48
        go_wp2_with fail
        refine cP.mono ?_; rintro e w1 ⟨rfl, k1⟩
        have h1 := h.kp k1 (fun _ _ f => f)
        have c0 := h1.c0
        have c1 := h1.c1
        have c2 := h1.c2
        have c3 := h1.c3
        have cb := h1.cb.cell hplN
        have fb := h1.cb.frozen pl
        have co := h1.co.cell pgl
        have ct := h1.ct.cell gl
        have ff := h1.ct.frozen g
        have cq := h1.cq.cell gl
        have fq := h1.cq.frozen g
        rw [hwt] at ct
        rw [← hN] at c0
        rw [← hn] at c1
        rw [← hK] at c2 c3
        obtain ⟨n1, n2, n3, n4, n5, n6, n7, n8, n9, n10⟩ := h1.ap
        have m1 := n1.symm
        have m3 := n3.symm
        have m4 := n4.symm
        have m6 := n6.symm
        have m7 := n7.symm
        have m10 := n10.symm
        obtain ⟨ob, hob⟩ : ∃ ob, ob = M.only pg := ⟨_, rfl⟩
        rw [← hob] at co hgo
        obtain ⟨nb, hnb⟩ : ∃ nb, nb = M.nt (64 * g) := ⟨_, rfl⟩
        rw [← hnb] at cq
        obtain ⟨vb, hvb⟩ : ∃ vb, vb = M.byte pl := ⟨_, rfl⟩
        rw [← hvb] at cb
        have RR := (h1.byte hplN v).like (M' := { M.note (64 * g) (64 * g + 64) with byte := fun y => if y = pl then v else M.byte y }) rfl rfl (fun _ _ => rfl) (fun _ _ => rfl)
          (fun j hj => by show (M.wt (64 * j) && !decide ((64 * g : Int) ≤ 64 * j ∧ (64 * j : Int) < 64 * g + 64)) = M.wt (64 * j); rw [in_gran]; by_cases e : j = g; (subst e; rw [hwt]; rfl); simp [e])
          (fun j hj => by show (M.nt (64 * j) || (M.wt (64 * j) && decide ((64 * g : Int) ≤ 64 * j ∧ (64 * j : Int) < 64 * g + 64))) = M.nt (64 * j); rw [in_gran]; by_cases e : j = g; (subst e; rw [hwt]; simp); simp [e])
        have KK := kp_has (i := pl) (kp_no (S := R.has) k1) (has_b R) (.int .u8 v)
        clear hob hnb hvb hN hn hK hwt cP h h1 hin hplN gl pgl k1 hle
        cases all <;> cases ob <;> first
          | (exfalso; simp at hgo; done)
          | (go_wp2; go_end0; exact ⟨rfl, RR, KK⟩)
      · replace hwt : M.wt (64 * g) = true := by cases hh : M.wt (64 * g); exact absurd hh hwt; rfl
        go_enter Try.func48, Try.ntmps48
        go_wp2_with fail
        refine cP.mono ?_; rintro e w1 ⟨rfl, k1⟩
        have h1 := h.kp k1 (fun _ _ f => f)
        have c0 := h1.c0
        have c1 := h1.c1
        have c2 := h1.c2
        have c3 := h1.c3
        have cb := h1.cb.cell hplN
        have fb := h1.cb.frozen pl
        have co := h1.co.cell pgl
        have ct := h1.ct.cell gl
        have ff := h1.ct.frozen g
        have cq := h1.cq.cell gl
        have fq := h1.cq.frozen g
        rw [hwt] at ct
        rw [← hN] at c0
        rw [← hn] at c1
        rw [← hK] at c2 c3
        obtain ⟨n1, n2, n3, n4, n5, n6, n7, n8, n9, n10⟩ := h1.ap
        have m1 := n1.symm
        have m3 := n3.symm
        have m4 := n4.symm
        have m6 := n6.symm
        have m7 := n7.symm
        have m10 := n10.symm
        obtain ⟨ob, hob⟩ : ∃ ob, ob = M.only pg := ⟨_, rfl⟩
        rw [← hob] at co hgo
        obtain ⟨nb, hnb⟩ : ∃ nb, nb = M.nt (64 * g) := ⟨_, rfl⟩
        rw [← hnb] at cq
        obtain ⟨vb, hvb⟩ : ∃ vb, vb = M.byte pl := ⟨_, rfl⟩
        rw [← hvb] at cb
        have RR := ((h1.byte hplN v).setWt gl false (fun y => M.wt y && !decide ((64 * g : Int) ≤ y ∧ y < 64 * g + 64)) (fun j hj => by show (M.wt (64 * j) && !decide ((64 * g : Int) ≤ 64 * j ∧ (64 * j : Int) < 64 * g + 64)) = _; rw [in_gran]; by_cases e : j = g <;> simp [e])).setNt gl true (fun y => M.nt y || (M.wt y && decide ((64 * g : Int) ≤ y ∧ y < 64 * g + 64)))
          (fun j hj => by show (M.nt (64 * j) || (M.wt (64 * j) && decide ((64 * g : Int) ≤ 64 * j ∧ (64 * j : Int) < 64 * g + 64))) = _; rw [in_gran]; by_cases e : j = g; (subst e; rw [hwt]; simp); simp [e])
        have KK := kp_has (i := g) (kp_has (i := g) (kp_has (i := pl) (kp_no (S := R.has) k1) (has_b R) (.int .u8 v)) (has_t R) (.bool false)) (has_q R) (.bool true)
        clear hob hnb hvb hN hn hK hwt cP h h1 hin hplN gl pgl k1 hle
        cases all <;> cases ob <;> first
          | (exfalso; simp at hgo; done)
          | (go_wp2; go_end0; exact ⟨rfl, RR, KK⟩)
    · rw [if_neg (fun f => hgo f.2)] at hput
      rw [hput]
      have ha : all = false := by cases all; rfl; exact absurd (Or.inl rfl) hgo
      have ho : M.only pg = true := by cases hh : M.only pg; exact absurd (Or.inr hh) hgo; rfl
      subst ha
      clear hput hgo
      go_enter Try.func48, Try.ntmps48
      go_wp2_with fail
      refine cP.mono ?_; rintro e w1 ⟨rfl, k1⟩
      have h1 := h.kp k1 (fun _ _ f => f)
      have c1 := h1.c1
      have cc := h1.co.cell pgl
      rw [ho] at cc
      rw [← hn] at c1
      clear hn cP hin ho pgl
      go_wp2
      go_end0
      exact ⟨rfl, h1, kp_no k1⟩
  · rw [decide_eq_false hin] at cP
    rw [if_neg (fun f => hin f.1)] at hput
    rw [hput]
    clear hput
    go_enter Try.func48, Try.ntmps48
    go_wp2_with fail
    refine cP.mono ?_; rintro e w1 ⟨rfl, k1⟩
    go_wp2
    go_end0
    exact ⟨rfl, h.kp k1 (fun _ _ f => f), kp_no k1⟩
end Go.Proofs.Ytmmnnafjikilpaa
