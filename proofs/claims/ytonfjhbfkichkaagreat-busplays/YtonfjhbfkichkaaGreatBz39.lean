/- The bus and its devices: BsOps, BsTick, BsLay. -/
import Derived.Test.YtonfjhbfkichkaaGreatBz37
import Derived.Test.YtonfjhbfkichkaaGreatBz38
import Derived.Test.YtonfjhbfkichkaaGreatBz04
namespace Go.Proofs.YtonfjhbfkichkaaGreat.Bs
open Go.ChangeShapes Go.WideShapes Go.ChangeAt Go.RowKit
open Go.Proofs.YtonfjhbfkichkaaGreat.Ut (Kp heap_lt heap_kept heap_set heap_new noB isB kpB)
set_option linter.unusedVariables false
set_option maxRecDepth 20000
theorem check_any (w : World) (b : Addr) (s : Int) : Calls Tryz.prog 51 #[.pointer (some b), .int .i64 s] w fun e w' => e = .returned (.int .i64 (erS s)) ∧ w' = w := by
 unfold erS
 by_cases h1 : s = 1
 ·subst h1
  rw [if_pos (by decide)]
  go_enter Tryz.func51, Tryz.ntmps51
  go_wp2
  go_ret
  exact ⟨rfl, rfl⟩
 by_cases h2 : s = 2
 ·subst h2
  rw [if_pos (by decide)]
  go_enter Tryz.func51, Tryz.ntmps51
  go_wp2
  go_ret
  exact ⟨rfl, rfl⟩
 by_cases h4 : s = 4
 ·subst h4
  rw [if_pos (by decide)]
  go_enter Tryz.func51, Tryz.ntmps51
  go_wp2
  go_ret
  exact ⟨rfl, rfl⟩
 rw [if_neg (by unfold okS; omega)]
 have q1 : (s != 1) = true := by simpa using h1
 have q2 : (s != 2) = true := by simpa using h2
 have q4 : (s != 4) = true := by simpa using h4
 clear h1 h2 h4
 go_enter Tryz.func51, Tryz.ntmps51
 go_wp2
 go_ret
 exact ⟨rfl, rfl⟩
section
variable {w : World} {S : Nat → Prop} {L : Loc} {x : Bm}
theorem out_ok (h : BW w S L x) (k : x.Ok) (p s v : Int) (p0 : 0 ≤ p) (p1 : p < 65536) (v0 : 0 ≤ v) (v1 : v < 4294967296) (hw : x.wk + 16 < 9007199254740) : Calls Tryz.prog 18 #[.pointer (some ⟨L.B, 0, none⟩), .int .u16 p, .int .i64 s, .int .u32 v] w fun e w' => e = .returned (.int .i64 (erS s)) ∧ BNx w S L (x.out p s v) w' := by
 have HC : Hid _ := check_any w ⟨L.B, 0, none⟩ s
 by_cases hs : okS s
 ·have es : erS s = 0 := by unfold erS; rw [if_pos hs]
  have ex : x.out p s v = (x.put p s v).tell := by unfold Bm.out; rw [if_pos hs]
  rw [es] at HC ⊢
  rw [ex]
  have hk := k.put p s v
  have HT : Hid (∀ W S1, BW W S1 L (x.put p s v) → _) := fun W S1 h => tell_ok h hk
  by_cases hp : p = 496
  ·subst hp
   have ep : x.put 496 s v = { x with d := x.d.o 0 s v } := by unfold Bm.put; rw [if_pos rfl]
   have HA : Hid (Calls Tryz.prog 52 #[.pointer (some ⟨L.I, 0, none⟩), .int .i64 0, .int .i64 s, .int .u32 v] w fun e w' => e = .returned (.int .i64 (Dk.ck 0 s)) ∧ BNx w S L (x.put 496 s v) w') := by
    rw [ep]
    exact bIde h (fun T q => Dk.wOut q k.d 0 s v v0 v1 (by unfold Bm.wk at hw; omega))
   generalize x.put 496 s v = X at *
   generalize Dk.ck 0 s = y at *
   have c3 := h.c3
   clear h k hw hs es ex ep hk
   go_enter Tryz.func18, Tryz.ntmps18
   go_wp2_with fail
   refine Calls.mono HC.out ?_; rintro e z0 ⟨rfl, hz⟩; replace hz := hz.symm; subst hz
   go_wp2_with fail
   refine Calls.mono HA.out ?_; rintro e z1 ⟨rfl, S1, q1, n1⟩
   have N1 : Hid _ := n1
   have Q1 : Hid _ := q1
   clear q1 n1 HA HC c3
   go_wp2_with fail
   refine Calls.mono (HT.out _ _ Q1.out) ?_; rintro e z2 ⟨rfl, hz⟩
   have HZ : Hid (BNx w S L X.tell z2) := .trans N1.out hz
   clear hz N1 Q1 HT
   go_wp2
   go_ret
   exact ⟨rfl, HZ.out⟩
  ·have ep : x.put p s v = Bm.outN s.toNat x p v := by unfold Bm.put; rw [if_neg hp]
   obtain ⟨n, hn⟩ : ∃ n : Nat, s = n := ⟨s.toNat, by unfold okS at hs; omega⟩
   subst hn
   have HA : Hid (Calls Tryz.prog 53 #[.pointer (some ⟨L.B, 0, none⟩), .int .u16 p, .int .i64 n, .int .u32 v] w fun e w' => e = .returned (.tuple #[]) ∧ BNx w S L (x.put p n v) w') := by
    rw [ep]
    exact write_ok h k p v n p0 p1 v0 v1 (by unfold okS at hs; omega) hw
   generalize x.put p n v = X at *
   have hp' : (p == 496) = false := by rw [beq_eq_false_iff_ne]; exact hp
   clear h k hw hs es ex ep hk hp
   go_enter Tryz.func18, Tryz.ntmps18
   go_wp2_with fail
   refine Calls.mono HC.out ?_; rintro e z0 ⟨rfl, hz⟩; replace hz := hz.symm; subst hz
   go_wp2_with fail
   refine Calls.mono HA.out ?_; rintro e z1 ⟨rfl, S1, q1, n1⟩
   have N1 : Hid _ := n1
   have Q1 : Hid _ := q1
   clear q1 n1 HA HC
   go_wp2_with fail
   refine Calls.mono (HT.out _ _ Q1.out) ?_; rintro e z2 ⟨rfl, hz⟩
   have HZ : Hid (BNx w S L X.tell z2) := .trans N1.out hz
   clear hz N1 Q1 HT
   go_wp2
   go_ret
   exact ⟨rfl, HZ.out⟩
 ·have es : erS s = 2 := by unfold erS; rw [if_neg hs]
  have ex : x.out p s v = x := by unfold Bm.out; rw [if_neg hs]
  rw [es] at HC ⊢
  rw [ex]
  have HZ : Hid (BNx w S L x w) := .refl h
  clear h k hw hs es ex
  go_enter Tryz.func18, Tryz.ntmps18
  go_wp2_with fail
  refine Calls.mono HC.out ?_; rintro e z0 ⟨rfl, hz⟩; replace hz := hz.symm; subst hz
  go_wp2
  go_ret
  exact ⟨rfl, HZ.out⟩
theorem in_ok (h : BW w S L x) (k : x.Ok) (p s : Int) (p0 : 0 ≤ p) (p1 : p < 65536) : Calls Tryz.prog 20 #[.pointer (some ⟨L.B, 0, none⟩), .int .u16 p, .int .i64 s] w fun e w' => e = .returned (.tuple #[.int .u32 (x.innV p s), .int .i64 (erS s)]) ∧ BNx w S L (x.inn p s) w' := by
 have HC : Hid _ := check_any w ⟨L.B, 0, none⟩ s
 by_cases hs : okS s
 ·have es : erS s = 0 := by unfold erS; rw [if_pos hs]
  have ex : x.inn p s = (x.got p s).tell := by unfold Bm.inn; rw [if_pos hs]
  have ev : x.innV p s = x.gotV p s := by unfold Bm.innV; rw [if_pos hs]
  rw [es] at HC ⊢
  rw [ex, ev]
  have hk := k.got p s
  have HT : Hid (∀ W S1, BW W S1 L (x.got p s) → _) := fun W S1 h => tell_ok h hk
  by_cases hp : p = 496
  ·subst hp
   have ep : x.got 496 s = { x with d := x.d.i 0 s } := by unfold Bm.got; rw [if_pos rfl]
   have eq : x.gotV 496 s = x.d.iV 0 s := by unfold Bm.gotV; rw [if_pos rfl]
   have HA : Hid (Calls Tryz.prog 55 #[.pointer (some ⟨L.I, 0, none⟩), .int .i64 0, .int .i64 s] w fun e w' => e = .returned (.tuple #[.int .u32 (x.gotV 496 s), .int .i64 (Dk.ck 0 s)]) ∧ BNx w S L (x.got 496 s) w') := by
    rw [ep, eq]
    exact bIde h (fun T q => Dk.wIn q k.d 0 s)
   generalize x.got 496 s = X at *
   generalize x.gotV 496 s = V at *
   generalize Dk.ck 0 s = y at *
   have c3 := h.c3
   clear h k hs es ex ep hk ev eq
   go_enter Tryz.func20, Tryz.ntmps20
   go_wp2_with fail
   refine Calls.mono HC.out ?_; rintro e z0 ⟨rfl, hz⟩; replace hz := hz.symm; subst hz
   go_wp2_with fail
   refine Calls.mono HA.out ?_; rintro e z1 ⟨rfl, S1, q1, n1⟩
   have N1 : Hid _ := n1
   have Q1 : Hid _ := q1
   clear q1 n1 HA HC c3
   go_wp2_with fail
   refine Calls.mono (HT.out _ _ Q1.out) ?_; rintro e z2 ⟨rfl, hz⟩
   have HZ : Hid (BNx w S L X.tell z2) := .trans N1.out hz
   clear hz N1 Q1 HT
   go_wp2
   go_ret2
   exact ⟨rfl, HZ.out⟩
  ·have ep : x.got p s = Bm.inN s.toNat x p := by unfold Bm.got; rw [if_neg hp]
   have eq : x.gotV p s = Bm.inVN s.toNat x p := by unfold Bm.gotV; rw [if_neg hp]
   obtain ⟨n, hn⟩ : ∃ n : Nat, s = n := ⟨s.toNat, by unfold okS at hs; omega⟩
   subst hn
   have HA : Hid (Calls Tryz.prog 56 #[.pointer (some ⟨L.B, 0, none⟩), .int .u16 p, .int .i64 n] w fun e w' => e = .returned (.int .u32 (x.gotV p n)) ∧ BNx w S L (x.got p n) w') := by
    rw [ep, eq]
    exact read_ok h k p n p0 p1 (by unfold okS at hs; omega)
   generalize x.got p n = X at *
   generalize x.gotV p n = V at *
   have hp' : (p == 496) = false := by rw [beq_eq_false_iff_ne]; exact hp
   clear h k hs es ex ep hk hp ev eq
   go_enter Tryz.func20, Tryz.ntmps20
   go_wp2_with fail
   refine Calls.mono HC.out ?_; rintro e z0 ⟨rfl, hz⟩; replace hz := hz.symm; subst hz
   go_wp2_with fail
   refine Calls.mono HA.out ?_; rintro e z1 ⟨rfl, S1, q1, n1⟩
   have N1 : Hid _ := n1
   have Q1 : Hid _ := q1
   clear q1 n1 HA HC
   go_wp2_with fail
   refine Calls.mono (HT.out _ _ Q1.out) ?_; rintro e z2 ⟨rfl, hz⟩
   have HZ : Hid (BNx w S L X.tell z2) := .trans N1.out hz
   clear hz N1 Q1 HT
   go_wp2
   go_ret2
   exact ⟨rfl, HZ.out⟩
 ·have es : erS s = 2 := by unfold erS; rw [if_neg hs]
  have ex : x.inn p s = x := by unfold Bm.inn; rw [if_neg hs]
  have ev : x.innV p s = 0 := by unfold Bm.innV; rw [if_neg hs]
  rw [es] at HC ⊢
  rw [ex, ev]
  have HZ : Hid (BNx w S L x w) := .refl h
  clear h k hs es ex ev
  go_enter Tryz.func20, Tryz.ntmps20
  go_wp2_with fail
  refine Calls.mono HC.out ?_; rintro e z0 ⟨rfl, hz⟩; replace hz := hz.symm; subst hz
  go_wp2
  go_ret2
  exact ⟨rfl, HZ.out⟩
theorem now_ok (h : BW w S L x) : Calls Tryz.prog 13 #[.pointer (some ⟨L.B, 0, none⟩)] w fun e w' => e = .returned (.int .u64 x.now) ∧ w' = w := by
 have c6 := h.c6
 clear h
 go_enter Tryz.func13, Tryz.ntmps13
 go_wp2
 go_ret
 exact ⟨rfl, rfl⟩
theorem push_ok (h : BW w S L x) (k : x.Ok) (v : Int) (hv : Byt v) : Calls Tryz.prog 38 #[.pointer (some ⟨L.B, 0, none⟩), .int .u8 v] w fun e w' => e = .returned (.tuple #[]) ∧ BNx w S L (x.push v) w' := by
 have HA : Hid (Calls Tryz.prog 83 #[.pointer (some ⟨L.U, 0, none⟩), .int .u8 v] w fun e w' => e = .returned (.tuple #[]) ∧ BNx w S L { x with u := x.u.push v } w') := bUart h (fun T q => Ut.wPush q k.u v)
 have hk : ({ x with u := x.u.push v } : Bm).Ok := { k with u := k.u.push hv }
 have HT : Hid (∀ W S1, BW W S1 L { x with u := x.u.push v } → _) := fun W S1 h => tell_ok h hk
 have c2 := h.c2
 have ex : x.push v = ({ x with u := x.u.push v } : Bm).tell := rfl
 rw [ex]
 generalize ({ x with u := x.u.push v } : Bm) = X at *
 clear h k hv hk ex
 go_enter Tryz.func38, Tryz.ntmps38
 go_wp2_with fail
 refine Calls.mono HA.out ?_; rintro e z1 ⟨rfl, S1, q1, n1⟩
 have N1 : Hid _ := n1
 have Q1 : Hid _ := q1
 clear q1 n1 HA c2
 go_wp2_with fail
 refine Calls.mono (HT.out _ _ Q1.out) ?_; rintro e z2 ⟨rfl, hz⟩
 have HZ : Hid (BNx w S L X.tell z2) := .trans N1.out hz
 clear hz N1 Q1 HT
 go_wp2
 go_end0
 exact ⟨rfl, HZ.out⟩
theorem ack_ok (h : BW w S L x) (k : x.Ok) : Calls Tryz.prog 22 #[.pointer (some ⟨L.B, 0, none⟩)] w fun e w' => e = .returned (.int .i64 x.p.vec) ∧ BNx w S L x.ack w' := by
 have HA : Hid (Calls Tryz.prog 57 #[.pointer (some ⟨L.P, 0, none⟩)] w fun e w' => e = .returned (.int .i64 x.p.vec) ∧ BNx w S L { x with p := x.p.ack } w') := bPic h (fun q => Pc.ack_ok w L.P x.p q k.p)
 have hk : ({ x with p := x.p.ack } : Bm).Ok := { k with p := k.p.ack, st := ack_st k.p }
 have HT : Hid (∀ W S1, BW W S1 L { x with p := x.p.ack } → _) := fun W S1 h => tell_ok h hk
 have c0 := h.c0
 have ex : x.ack = ({ x with p := x.p.ack } : Bm).tell := rfl
 rw [ex]
 generalize ({ x with p := x.p.ack } : Bm) = X at *
 generalize x.p.vec = y at *
 clear h k hk ex
 go_enter Tryz.func22, Tryz.ntmps22
 go_wp2_with fail
 refine Calls.mono HA.out ?_; rintro e z1 ⟨rfl, S1, q1, n1⟩
 have N1 : Hid _ := n1
 have Q1 : Hid _ := q1
 clear q1 n1 HA c0
 go_wp2_with fail
 refine Calls.mono (HT.out _ _ Q1.out) ?_; rintro e z2 ⟨rfl, hz⟩
 have HZ : Hid (BNx w S L X.tell z2) := .trans N1.out hz
 clear hz N1 Q1 HT
 go_wp2
 go_ret
 exact ⟨rfl, HZ.out⟩
theorem pend_ok (h : BW w S L x) (k : x.Ok) : Calls Tryz.prog 11 #[.pointer (some ⟨L.B, 0, none⟩)] w fun e w' => e = .returned (.bool (x.p.a.next != -1)) ∧ Kp noB w w' := by
 have HA : Hid (Calls Tryz.prog 41 #[.pointer (some ⟨L.P, 0, none⟩)] w fun e w' => e = .returned (.bool (x.p.a.next != -1)) ∧ Kp noB w w') := by
  obtain ⟨T, a, b⟩ := Sys.at h 2
  exact (Pc.pend_ok w L.P x.p a.2 k.p.a).mono fun e w' ⟨q, r⟩ => ⟨q, kPc r⟩
 have c0 := h.c0
 generalize (x.p.a.next != -1) = y at *
 clear h k
 go_enter Tryz.func11, Tryz.ntmps11
 go_wp2_with fail
 refine Calls.mono HA.out ?_; rintro e z1 ⟨rfl, hz⟩
 have HZ : Hid _ := hz
 clear hz HA c0
 go_wp2
 go_ret
 exact ⟨rfl, HZ.out⟩
end
def Bm.tickN (x : Bm) (n : Int) : Bm := if 65536 < n then Bm.ticks 65536 (x.skip (n - 65536)) else Bm.ticks n.toNat x
theorem Bm.Ok.tickN {x : Bm} (k : x.Ok) (n : Int) : (x.tickN n).Ok := by
 unfold Bm.tickN
 split
 ·exact .ticks _ (k.skip _)
 ·exact .ticks _ k
section
variable {w : World} {S : Nat → Prop} {L : Loc} {x : Bm}
theorem bTime (h : BW w S L x) (t : Int) : BNx w S L { x with now := t } (w.setCell ⟨L.B, 6, none⟩ (.int .u64 t)) := bSet h x.cl t rfl
theorem ticks_succ (n : Nat) (x : Bm) : Bm.ticks (n + 1) x = Bm.ticks n x.tick1 := rfl
set_option maxHeartbeats 1000000 in
theorem tick_low (h : BW w S L x) (k : x.Ok) (n : Int) (n1 : n ≤ 65536) : Calls Tryz.prog 21 #[.pointer (some ⟨L.B, 0, none⟩), .int .i64 n] w fun e w' => e = .returned (.tuple #[]) ∧ BNx w S L (Bm.ticks n.toNat x) w' := by
 obtain ⟨X, hX⟩ : ∃ X, X = Bm.ticks n.toNat x := ⟨_, rfl⟩
 rw [← hX]
 have P0 : Hid (BW w S L x ∧ x.Ok) := ⟨h, k⟩
 have N0 : Hid (Nx w S w S) := Nx.refl _ _
 have E0 : Hid (Bm.ticks (n.toNat - 0) x = X) := hX.symm
 have q : ¬ n > 65536 := by omega
 clear h k hX
 go_enter Tryz.func21, Tryz.ntmps21
 go_wp2
 go_loopw [19] (fun s19 wr => ∃ (i : Nat) (x' : Bm) (S' : Nat → Prop), s19 = .int .i64 i ∧ i ≤ n.toNat ∧ (BW wr S' L x' ∧ x'.Ok) ∧ Nx w S wr S' ∧ Bm.ticks (n.toNat - i) x' = X) (fun s19 _ => ((n.toNat : Int) - intOf s19).toNat)
 case atStart => exact ⟨0, x, S, rfl, by omega, P0.out, N0.out, E0.out⟩
 case round =>
  clear P0 N0 E0
  obtain ⟨i, x, S1, rfl, hi, ⟨h, k⟩, n2, e⟩ := hrel
  by_cases hlt : i < n.toNat
  ·obtain ⟨j, hj⟩ : ∃ j, n.toNat - i = j + 1 := ⟨n.toNat - i - 1, by omega⟩
   have hj' : n.toNat - (i + 1) = j := by omega
   rw [hj, ticks_succ] at e
   obtain ⟨t, ht⟩ : ∃ t, t = (x.now + 1) % 18446744073709551616 := ⟨_, rfl⟩
   have f1 : (x.now + 1) % 18446744073709551616 = t := ht.symm
   have f2 : IntKind.u64.wrap (x.now + 1) = t := by rw [IntKind.wrap_u64, ht]
   have hk : ({ x with now := t } : Bm).Ok := by rw [ht]; exact k.skip 1
   have et : x.tick1 = ({ x with now := t } : Bm).tell := by rw [ht]; rfl
   obtain ⟨S2, b1, b2⟩ := bTime h t
   have HT : Hid (Calls Tryz.prog 29 #[.pointer (some ⟨L.B, 0, none⟩)] (wr.setCell ⟨L.B, 6, none⟩ (.int .u64 t)) fun e w' => e = .returned (.tuple #[]) ∧ BNx (wr.setCell ⟨L.B, 6, none⟩ (.int .u64 t)) S2 L x.tick1 w') := by
    rw [et]
    exact tell_ok b1 hk
   have K1 : Hid x.tick1.Ok := k.tick1
   have N2 : Hid (Nx w S (wr.setCell ⟨L.B, 6, none⟩ (.int .u64 t)) S2) := n2.trans b2
   have EQ : Hid _ := e
   have c6 := h.c6
   have f6 := h.fz 6
   have hltI : (i : Int) < n := by omega
   clear h k hk et b1 b2 n2 e ht
   go_wp2_with fail
   refine Calls.mono HT.out ?_; rintro e z1 ⟨rfl, S3, q3, n3⟩
   have Q3 : Hid _ := q3
   have N3 : Hid (Nx w S z1 S3) := N2.out.trans n3
   clear q3 n3 HT N2 c6 f6
   go_wp2
   go_roundw
   case rel => exact ⟨i + 1, _, S3, by go_num, by omega, ⟨Q3.out, K1.out⟩, N3.out, by rw [hj']; exact EQ.out⟩
   case measure => simp [intOf]; omega
  ·have HZ : Hid (BNx w S L X wr) := by
    rw [show n.toNat - i = 0 by omega] at e
    rw [← e]
    exact ⟨S1, h, n2⟩
   have hge : ¬ (i : Int) < n := by omega
   clear e h n2 k
   go_wp2
   go_end0
   exact ⟨rfl, HZ.out⟩
set_option maxHeartbeats 1000000 in
theorem tick_high (h : BW w S L x) (k : x.Ok) (n : Int) (n0 : 65536 < n) (n1 : n ≤ 9223372036854775807) : Calls Tryz.prog 21 #[.pointer (some ⟨L.B, 0, none⟩), .int .i64 n] w fun e w' => e = .returned (.tuple #[]) ∧ BNx w S L (Bm.ticks 65536 (x.skip (n - 65536))) w' := by
 obtain ⟨X, hX⟩ : ∃ X, X = Bm.ticks 65536 (x.skip (n - 65536)) := ⟨_, rfl⟩
 rw [← hX]
 have e1 : IntKind.i64.wrap (n - 65536) = n - 65536 := by rw [IntKind.wrap_i64]; omega
 obtain ⟨m, hm⟩ : ∃ m, m = n - 65536 := ⟨_, rfl⟩
 rw [← hm] at e1 hX
 have e2 : IntKind.u64.wrap m = m := by rw [IntKind.wrap_u64]; omega
 obtain ⟨t, ht⟩ : ∃ t, t = (x.now + m) % 18446744073709551616 := ⟨_, rfl⟩
 have e3 : IntKind.u64.wrap (x.now + m) = t := by rw [IntKind.wrap_u64, ht]
 have e4 : (x.now + m) % 18446744073709551616 = t := ht.symm
 have e5 : m % 18446744073709551616 = m := by omega
 have e6 : n - 65536 = m := hm.symm
 obtain ⟨S1, b1, b2⟩ := bTime h t
 have c6 := h.c6
 have f6 := h.fz 6
 have ks : (x.skip m).Ok := k.skip m
 have es : x.skip m = { x with now := t } := by unfold Bm.skip; rw [ht]
 have P0 : Hid (BW (w.setCell ⟨L.B, 6, none⟩ (.int .u64 t)) S1 L (x.skip m) ∧ (x.skip m).Ok) := ⟨by rw [es]; exact b1, ks⟩
 have N0 : Hid (Nx w S (w.setCell ⟨L.B, 6, none⟩ (.int .u64 t)) S1) := b2
 have E0 : Hid (Bm.ticks (65536 - 0) (x.skip m) = X) := hX.symm
 have q : n > 65536 := by omega
 generalize x.skip m = y at *
 clear h k hX ks es b1 b2 hm ht
 go_enter Tryz.func21, Tryz.ntmps21
 go_wp2
 go_loopw [19] (fun s19 wr => ∃ (i : Nat) (x' : Bm) (S' : Nat → Prop), s19 = .int .i64 i ∧ i ≤ 65536 ∧ (BW wr S' L x' ∧ x'.Ok) ∧ Nx w S wr S' ∧ Bm.ticks (65536 - i) x' = X) (fun s19 _ => ((65536 : Int) - intOf s19).toNat)
 case atStart => exact ⟨0, y, S1, rfl, by omega, P0.out, N0.out, E0.out⟩
 case round =>
  clear P0 N0 E0
  obtain ⟨i, x, S1, rfl, hi, ⟨h, k⟩, n2, e⟩ := hrel
  by_cases hlt : i < 65536
  ·obtain ⟨j, hj⟩ : ∃ j, 65536 - i = j + 1 := ⟨65536 - i - 1, by omega⟩
   have hj' : 65536 - (i + 1) = j := by omega
   rw [hj, ticks_succ] at e
   obtain ⟨t, ht⟩ : ∃ t, t = (x.now + 1) % 18446744073709551616 := ⟨_, rfl⟩
   have f1 : (x.now + 1) % 18446744073709551616 = t := ht.symm
   have f2 : IntKind.u64.wrap (x.now + 1) = t := by rw [IntKind.wrap_u64, ht]
   have hk : ({ x with now := t } : Bm).Ok := by rw [ht]; exact k.skip 1
   have et : x.tick1 = ({ x with now := t } : Bm).tell := by rw [ht]; rfl
   obtain ⟨S2, b1, b2⟩ := bTime h t
   have HT : Hid (Calls Tryz.prog 29 #[.pointer (some ⟨L.B, 0, none⟩)] (wr.setCell ⟨L.B, 6, none⟩ (.int .u64 t)) fun e w' => e = .returned (.tuple #[]) ∧ BNx (wr.setCell ⟨L.B, 6, none⟩ (.int .u64 t)) S2 L x.tick1 w') := by
    rw [et]
    exact tell_ok b1 hk
   have K1 : Hid x.tick1.Ok := k.tick1
   have N2 : Hid (Nx w S (wr.setCell ⟨L.B, 6, none⟩ (.int .u64 t)) S2) := n2.trans b2
   have EQ : Hid _ := e
   have c6 := h.c6
   have f6 := h.fz 6
   have hltI : (i : Int) < 65536 := by omega
   clear h k hk et b1 b2 n2 e ht
   go_wp2_with fail
   refine Calls.mono HT.out ?_; rintro e z1 ⟨rfl, S3, q3, n3⟩
   have Q3 : Hid _ := q3
   have N3 : Hid (Nx w S z1 S3) := N2.out.trans n3
   clear q3 n3 HT N2 c6 f6
   go_wp2
   go_roundw
   case rel => exact ⟨i + 1, _, S3, by go_num, by omega, ⟨Q3.out, K1.out⟩, N3.out, by rw [hj']; exact EQ.out⟩
   case measure => simp [intOf]; omega
  ·have HZ : Hid (BNx w S L X wr) := by
    rw [show 65536 - i = 0 by omega] at e
    rw [← e]
    exact ⟨S1, h, n2⟩
   have hge : ¬ (i : Int) < 65536 := by omega
   clear e h n2 k
   go_wp2
   go_end0
   exact ⟨rfl, HZ.out⟩
theorem tick_ok (h : BW w S L x) (k : x.Ok) (n : Int) (n1 : n ≤ 9223372036854775807) : Calls Tryz.prog 21 #[.pointer (some ⟨L.B, 0, none⟩), .int .i64 n] w fun e w' => e = .returned (.tuple #[]) ∧ BNx w S L (x.tickN n) w' := by
 unfold Bm.tickN
 split
 ·rename_i g
  exact tick_high h k n g n1
 ·rename_i g
  exact tick_low h k n (by omega)
def SentP (w : World) (S : Nat → Prop) (L : Loc) (x : Bm) (v : Value) (w' : World) : Prop := ∃ S', BW w' S' L { x with u := x.u.hush } ∧ Nx w S w' S' ∧ Ut.OwnB w' v x.u.sent ∧ ∀ g, v.ownBlock = some g → S g ∧ ¬ S' g
theorem uart_sent (h : BW w S L x) : Calls Tryz.prog 54 #[.pointer (some ⟨L.U, 0, none⟩)] w fun e w' => ∃ p c, e = .returned (.slice p x.u.sent.length c) ∧ SentP w S L x (.slice p x.u.sent.length c) w' := by
 obtain ⟨T, a, b, c⟩ := Sys.fstX h 4
 refine (Ut.wSent a).mono fun e w' ⟨p, cc, q, T', r1, r2, r3, r4⟩ => ⟨p, cc, q, ?_⟩
 obtain ⟨S', d1, d2, d3⟩ := c (uartR L.U x.u.hush) w' T' r1 ⟨r2.sub, r2.kp⟩ r1.lt
 rw [up4] at d1
 exact ⟨S', d1, d2, r3.own, fun g e => ⟨(b g (r4 g e)).1, fun f => r3.out g e (d3 g f (r4 g e))⟩⟩
theorem sent_ok (h : BW w S L x) : Calls Tryz.prog 19 #[.pointer (some ⟨L.B, 0, none⟩)] w fun e w' => ∃ p c, e = .returned (.slice p x.u.sent.length c) ∧ SentP w S L x (.slice p x.u.sent.length c) w' := by
 have HA : Hid _ := uart_sent h
 have c2 := h.c2
 clear h
 go_enter Tryz.func19, Tryz.ntmps19
 go_wp2_with fail
 refine Calls.mono HA.out ?_; rintro e z1 ⟨p, c, rfl, hz⟩
 have HZ : Hid _ := hz
 clear hz HA c2
 go_wp2
 go_ret
 exact ⟨p, c, rfl, HZ.out⟩
def TellP (w : World) (S : Nat → Prop) (L : Loc) (x : Bm) (v : Value) (w' : World) : Prop := ∃ S', BW w' S' L { x with d := x.d.told } ∧ Nx w S w' S' ∧ Dk.OwnI w' v x.d.log ∧ ∀ g, v.ownBlock = some g → S g ∧ ¬ S' g
theorem ide_told (h : BW w S L x) : Calls Tryz.prog 93 #[.pointer (some ⟨L.I, 0, none⟩)] w fun e w' => ∃ p c, e = .returned (.slice p x.d.log.length c) ∧ TellP w S L x (.slice p x.d.log.length c) w' := by
 obtain ⟨T, a, b, c⟩ := Sys.fstX h 5
 refine (Dk.wWritten a).mono fun e w' ⟨p, cc, q, T', r1, r2, r3, r4⟩ => ⟨p, cc, q, ?_⟩
 obtain ⟨S', d1, d2, d3⟩ := c (ideR L.I x.d.told) w' T' r1 ⟨r2.sub, kDk r2.kp⟩ r1.lt
 rw [up5] at d1
 exact ⟨S', d1, d2, r3.own, fun g e => ⟨(b g (r4 g e)).1, fun f => r3.out g e (d3 g f (r4 g e))⟩⟩
theorem written_ok (h : BW w S L x) : Calls Tryz.prog 47 #[.pointer (some ⟨L.B, 0, none⟩)] w fun e w' => ∃ p c, e = .returned (.slice p x.d.log.length c) ∧ TellP w S L x (.slice p x.d.log.length c) w' := by
 have HA : Hid _ := ide_told h
 have c3 := h.c3
 clear h
 go_enter Tryz.func47, Tryz.ntmps47
 go_wp2_with fail
 refine Calls.mono HA.out ?_; rintro e z1 ⟨p, c, rfl, hz⟩
 have HZ : Hid _ := hz
 clear hz HA c3
 go_wp2
 go_ret
 exact ⟨p, c, rfl, HZ.out⟩
theorem disk_ok (h : BW w S L x) (k : x.Ok) : Calls Tryz.prog 50 #[.pointer (some ⟨L.B, 0, none⟩)] w fun e w' => e = .returned (.slice (some ⟨w.heap.size, 0, none⟩) (512 * x.d.n) (512 * x.d.n)) ∧ Dk.DskPost w x.d w' := by
 have HA : Hid (Calls Tryz.prog 94 #[.pointer (some ⟨L.I, 0, none⟩)] w fun e w' => e = .returned (.slice (some ⟨w.heap.size, 0, none⟩) (512 * x.d.n) (512 * x.d.n)) ∧ Dk.DskPost w x.d w') := by
  obtain ⟨T, a, b⟩ := Sys.at h 5
  exact Dk.wDisk a k.d
 have c3 := h.c3
 generalize 512 * x.d.n = N at *
 clear h k
 go_enter Tryz.func50, Tryz.ntmps50
 go_wp2_with fail
 refine Calls.mono HA.out ?_; rintro e z1 ⟨rfl, hz⟩
 have HZ : Hid _ := hz
 clear hz HA c3
 go_wp2
 go_ret
 exact ⟨rfl, HZ.out⟩
end
def rowP (p : Int) (dv : Dv) (a : Int) : Nat → List (Int × (Dv × Int))
 | 0 => []
 | n + 1 => rowP p dv a n ++ [(p + n, (dv, a + n))]
theorem cell_of {w : World} {b : Nat} {c : Array Value} {t : TypeId} {fr : Nat × Nat} (h : w.heap[b]? = some (.cells c t fr)) {k : Nat} {v : Value} (e : c[k]? = some v) : w.cell? ⟨b, k, none⟩ = some v := by
 simp [World.cell?, h, e]
theorem fz_of {w : World} {b : Nat} {c : Array Value} {t : TypeId} (h : w.heap[b]? = some (.cells c t (0, 0))) (k : Nat) : w.frozen? ⟨b, k, none⟩ = false := by
 simp [World.frozen?, h]
def entO (a : Int) (F G : Value) : Obj := .cells #[.int .i64 a, F, G] 134 (0, 0)
set_option maxHeartbeats 1000000 in
theorem lay_ok (w : World) (L : Loc) (l : List (Int × (Dv × Int))) (p a : Int) (dv : Dv) (F G : Value) (n : Nat) (hB : w.cell? ⟨L.B, 7, none⟩ = some (.map (some L.Q))) (hBl : L.B < w.heap.size) (hq : w.heap[L.Q]? = some (mapO L l)) (BQ : L.B ≠ L.Q)
  (hv : ∀ i : Nat, portV L (dv, a + i) = .agg #[.int .i64 (a + i), F, G]) (hn : ∀ i : Nat, i < n → getP (l ++ rowP p dv a i) (p + i) = none) (n8 : n ≤ 8) (p0 : 0 ≤ p) (p1 : p + 8 < 65536) (a0 : 0 ≤ a) (a1 : a < 9) :
  Calls Tryz.prog 59 #[.pointer (some ⟨L.B, 0, none⟩), .int .u16 p, .int .i64 n, .agg #[.int .i64 a, F, G]] w fun e w' => e = .returned (.tuple #[]) ∧ w'.heap[L.Q]? = some (mapO L (l ++ rowP p dv a n)) ∧ Kp (isB L.Q) w w' := by
 have HV : Hid (∀ i : Nat, portV L (dv, a + i) = .agg #[.int .i64 (a + i), F, G]) := hv
 have HN : Hid (∀ i : Nat, i < n → getP (l ++ rowP p dv a i) (p + i) = none) := hn
 have Ql := heap_lt hq
 obtain ⟨E, hE⟩ : ∃ E, E = w.heap.size := ⟨_, rfl⟩
 have P0 : Hid ((w.alloc (.cells #[.int .i64 a, F, G] 134)).heap[E]? = some (entO (a + (0 : Nat)) F G) ∧ (w.alloc (.cells #[.int .i64 a, F, G] 134)).heap[L.Q]? = some (mapO L (l ++ rowP p dv a 0)) ∧ Kp (fun k => k = L.Q ∨ k = E) w (w.alloc (.cells #[.int .i64 a, F, G] 134))) := by
  refine ⟨by rw [hE, heap_new]; simp [entO], ?_, Kp.alloc _ _ _⟩
  rw [show l ++ rowP p dv a 0 = l from List.append_nil l]
  exact heap_kept hq (Kp.alloc noB _ _) id
 have hB0 : Hid (w.cell? ⟨L.B, 7, none⟩ = some (.map (some L.Q))) := hB
 have EQ : E ≠ L.Q := by omega
 have EB : E ≠ L.B := by omega
 have HK : Hid (∀ W, Kp (fun k => k = L.Q ∨ k = E) w W → Kp (isB L.Q) w W) := fun W k => k.mono fun j hj g => by
  rcases g with g | g
  ·exact g
  ·omega
 clear hB hq hv hn
 go_enter Tryz.func59, Tryz.ntmps59
 go_wp2
 rw [← hE]
 clear hE
 go_loopw [1, 9] (fun s1 s9 wr => ∃ (i : Nat) (p' : Int), s1 = .int .u16 p' ∧ s9 = .int .i64 i ∧ p' = p + i ∧ i ≤ n ∧ wr.heap[E]? = some (entO (a + i) F G) ∧ wr.heap[L.Q]? = some (mapO L (l ++ rowP p dv a i)) ∧ Kp (fun k => k = L.Q ∨ k = E) w wr) (fun s1 s9 _ => ((n : Int) - intOf s9).toNat)
 case atStart => exact ⟨0, p, rfl, rfl, by omega, by omega, P0.out.1, P0.out.2.1, P0.out.2.2⟩
 case round =>
  clear P0
  obtain ⟨i, p', rfl, rfl, hp', hi, h1, h2, kk⟩ := hrel
  by_cases hlt : i < n
  ·have h2d : wr.drew.heap[L.Q]? = some (mapO L (l ++ rowP p dv a i)) := h2
   obtain ⟨w2, g1, g2, g3⟩ := put_port h2d (p + i) (dv, a + i) (HN.out i hlt)
   rw [HV.out i] at g1
   rw [← hp'] at g1 g2
   obtain ⟨a2, ha2⟩ : ∃ a2, a2 = a + i := ⟨_, rfl⟩
   rw [← ha2] at g1 h1
   have b1 : IntKind.i64.wrap (a2 + 1) = a2 + 1 := by rw [IntKind.wrap_i64]; omega
   obtain ⟨p2, hp2⟩ : ∃ p2, p2 = p' + 1 := ⟨_, rfl⟩
   have b2 : IntKind.u16.wrap (p' + 1) = p2 := by rw [IntKind.wrap_u16]; omega
   have b3 : (p' + 1) % 65536 = p2 := by omega
   have h1d : wr.drew.heap[E]? = some (entO a2 F G) := h1
   unfold entO at h1d
   have c0 := cell_of h1d (k := 0) rfl
   have c1 := cell_of h1d (k := 1) rfl
   have c2 := cell_of h1d (k := 2) rfl
   have cB : wr.drew.cell? ⟨L.B, 7, none⟩ = some (.map (some L.Q)) := by
    have e : wr.heap[L.B]? = w.heap[L.B]? := kk.block L.B hBl (fun g => by rcases g with g | g <;> omega)
    have := hB0.out
    simp only [World.cell?] at this ⊢
    rw [show wr.drew.heap = wr.heap from rfl, e]
    exact this
   have e2 : w2.heap[E]? = some (entO a2 F G) := heap_kept (show wr.drew.heap[E]? = some (entO a2 F G) from h1) g3 EQ
   unfold entO at e2
   have d0 := cell_of e2 (k := 0) rfl
   have df := fz_of e2 0
   have K3 : Hid (Kp (fun k => k = L.Q ∨ k = E) w (w2.setCell ⟨E, 0, none⟩ (.int .i64 (a2 + 1)))) := ((kk.drew.trans (g3.mono fun _ _ g => .inl g)).trans (Kp.setCell w2 (p := ⟨E, 0, none⟩) (.inr rfl) _))
   have H3 : Hid ((w2.setCell ⟨E, 0, none⟩ (.int .i64 (a2 + 1))).heap[E]? = some (entO (a + (i + 1 : Nat)) F G) ∧ (w2.setCell ⟨E, 0, none⟩ (.int .i64 (a2 + 1))).heap[L.Q]? = some (mapO L (l ++ rowP p dv a (i + 1)))) := by
    refine ⟨by rw [heap_set e2, show a + ((i + 1 : Nat) : Int) = a2 + 1 by omega]; rfl, ?_⟩
    rw [heap_kept g2 (kpB E w2 0 _) (fun (g : L.Q = E) => EQ g.symm), hp', List.append_assoc]
    rfl
   have Hp2 : Hid (p2 = p + ((i + 1 : Nat) : Int)) := by show _ = _; omega
   have G1 := g1
   clear kk h1 h2 h1d h2d g1 g2 g3 e2 HN HV hp' hp2 ha2
   go_wp2
   go_region
   all_goals
    go_wp2
    go_roundw
    case rel => exact ⟨i + 1, p2, rfl, by go_num, Hp2.out, by omega, H3.out.1, H3.out.2, K3.out⟩
    case measure => simp [intOf]; omega
  ·have hi' : i = n := by omega
   subst hi'
   have HZ : Hid (wr.heap[L.Q]? = some (mapO L (l ++ rowP p dv a i)) ∧ Kp (isB L.Q) w wr) := ⟨h2, HK.out _ kk⟩
   clear h1 h2 kk HN HV
   go_wp2
   go_end0
   exact ⟨rfl, HZ.out⟩
end Go.Proofs.YtonfjhbfkichkaaGreat.Bs
