/- The bus and its devices: BrOps, BsBoth, BsCalls, BsAwake. -/
import Derived.Test.YtonfjhbfkichkaaGreatBz41
import Derived.Test.YtonfjhbfkichkaaGreatBz38
import Derived.Test.YtonfjhbfkichkaaGreatBz44
import Derived.Test.YtonfjhbfkichkaaGreatBz03
import Derived.Test.YtonfjhbfkichkaaGreatBz21
namespace Go.Proofs.YtonfjhbfkichkaaGreat.Bs
open Go.ChangeShapes Go.WideShapes Go.ChangeAt Go.RowKit
open Go.Proofs.YtonfjhbfkichkaaGreat.Ut (Kp heap_lt heap_kept heap_set heap_new noB isB kpB)
set_option linter.unusedVariables false
set_option maxRecDepth 20000
section
variable {w : World} {S : Nat → Prop} {L : LocR} {x : Bm}
theorem oB_ok {x : Bm} (k : x.Ok) (p v : Int) : ∀ i, (oB x p v i).Ok
 | 0 => k
 | i + 1 => (oB_ok k p v i).outD ⟨by omega, by omega⟩ _
theorem oB_wk {x : Bm} (k : x.Ok) (p v : Int) : ∀ i, (oB x p v i).wk ≤ x.wk + 4 * i
 | 0 => Nat.le_refl _
 | i + 1 => by
  have h1 := oB_wk k p v i
  have h2 := outD_wk (oB_ok k p v i) (v / 256 ^ i % 256) (portOf (pi p i))
  show (Bm.outD _ _ _).wk ≤ _
  omega
set_option maxHeartbeats 2000000 in
theorem dOut_ok (h : DW w S L x) (k : x.Ok) (p s v : Int) (p0 : 0 ≤ p) (p1 : p < 65536) (v0 : 0 ≤ v) (v1 : v < 4294967296) (hw : x.wk + 16 < 9007199254740) : Calls Tryz.prog 35 #[.pointer (some ⟨L.B, 0, none⟩), .int .u16 p, .int .i64 s, .int .u32 v] w fun e w' => e = .returned (.int .i64 (erS s)) ∧ DNx w S L (x.out p s v) w' := by
 by_cases hs : okS s
 ·have es : erS s = 0 := by unfold erS; rw [if_pos hs]
  have ex : x.out p s v = (x.put p s v).tell := by unfold Bm.out; rw [if_pos hs]
  rw [es, ex]
  have hk := k.put p s v
  have HT : Hid (∀ W S1, DW W S1 L (x.put p s v) → _) := fun W S1 h => lines_ok h hk
  by_cases hp : p = 496
  ·subst hp
   have ep : x.put 496 s v = { x with d := x.d.o 0 s v } := by unfold Bm.put; rw [if_pos rfl]
   have HA : Hid (Calls Tryz.prog 79 #[.pointer (some ⟨L.I, 0, none⟩), .int .i64 0, .int .i64 s, .int .u32 v] w fun e w' => e = .returned (.int .i64 (Dk.ck 0 s)) ∧ DNx w S L (x.put 496 s v) w') := by
    rw [ep]
    exact dIde h (fun T q => Dk.xOut q k.d 0 s v v0 v1 (by unfold Bm.wk at hw; omega))
   generalize x.put 496 s v = X at *
   generalize Dk.ck 0 s = y at *
   have c4 := h.c4
   clear h k hw es ex ep hk
   rcases hs with rfl | rfl | rfl
   all_goals
    go_enter Tryz.func35, Tryz.ntmps35
    go_wp2_with fail
    refine Calls.mono HA.out ?_; rintro e z1 ⟨rfl, S1, q1, n1⟩
    have N1 : Hid _ := n1
    have Q1 : Hid _ := q1
    clear q1 n1 HA c4
    go_wp2_with fail
    refine Calls.mono (HT.out _ _ Q1.out) ?_; rintro e z2 ⟨rfl, hz⟩
    have HZ : Hid (DNx w S L X.tell z2) := .trans N1.out hz
    clear hz N1 Q1 HT
    go_wp2
    go_ret
    exact ⟨rfl, HZ.out⟩
  ·have hp' : (p == 496) = false := by rw [beq_eq_false_iff_ne]; exact hp
   have n4 : 1 ≤ s ∧ s ≤ 4 := by unfold okS at hs; omega
   have ep : x.put p s v = oB x p v s.toNat := by
    unfold Bm.put
    rw [if_neg hp]
    have := outN_oB s.toNat x p v 0
    rw [pi_0 p0 p1, Int.pow_zero, Int.ediv_one, Nat.zero_add] at this
    exact this
   rw [ep] at HT ⊢
   have P0 : Hid (DW w S L x ∧ x.Ok) := ⟨h, k⟩
   have KW : Hid (∀ i, (oB x p v i).Ok ∧ (oB x p v i).wk ≤ x.wk + 4 * i) := fun i => ⟨oB_ok k p v i, oB_wk k p v i⟩
   have HZ0 : Hid (x.wk + 16 < 9007199254740) := hw
   obtain ⟨n, hn⟩ : ∃ n : Nat, s = n := ⟨s.toNat, by omega⟩
   have hn' : s.toNat = n := by omega
   rw [hn'] at HT ⊢
   clear h k es ex hk ep hw
   unfold okS at hs
   rcases hs with rfl | rfl | rfl
   ·obtain rfl : n = 1 := by omega
    clear hn hn' n4
    go_enter Tryz.func35, Tryz.ntmps35
    go_wp2
    go_loopw [9] (fun s9 wr => ∃ (i : Nat) (S' : Nat → Prop), s9 = .int .i64 i ∧ i ≤ 1 ∧ DW wr S' L (oB x p v i) ∧ Nx w S wr S') (fun s9 _ => 4 - (intOf s9).toNat)
    case atStart => exact ⟨0, S, rfl, by omega, P0.out.1, Nx.refl _ _⟩
    case round =>
     obtain ⟨i, S1, rfl, hi, hh, n1⟩ := hrel
     by_cases hlt : i < 1
     ·obtain ⟨u, hu⟩ : ∃ u, u = v / 256 ^ i % 256 := ⟨_, rfl⟩
      have hub : Byt u := by rw [hu]; exact ⟨by omega, by omega⟩
      obtain ⟨kk, kw⟩ := KW.out i
      have HN : Hid (Calls Tryz.prog 80 #[.pointer (some ⟨L.B, 0, none⟩), .int .u16 (pi p i), .int .u8 u] wr fun e w' => e = .returned (.tuple #[]) ∧ DNx wr S1 L (oB x p v (i + 1)) w') := by
       have := rout_ok hh kk (pi p i) (pi_bd _ _).1 (pi_bd _ _).2 u hub (by have := HZ0.out; omega)
       rw [hu] at this
       rw [hu]
       exact this
      obtain ⟨pp, hpp⟩ : ∃ pp, pp = pi p i := ⟨_, rfl⟩
      rw [← hpp] at HN
      have u0 := hub.1
      have u1 := hub.2
      have N1 : Hid (Nx w S wr S1) := n1
      have i4 : i = 0 := by omega
      clear hh kk kw hub n1 hi hlt
      rcases i4 with rfl
      ·have g1 : v % 256 = u := by rw [hu, Int.pow_zero, Int.ediv_one]
       have g2 : IntKind.u8.wrap u = u := by rw [IntKind.wrap_u8]; omega
       have e0 : pp = p := by rw [hpp, pi_0 p0 p1]
       rw [e0] at HN
       clear e0
       clear hu hpp
       go_wp2_with fail
       refine Calls.mono HN.out ?_; rintro e z1 ⟨rfl, S2, q2, n2⟩
       have Q2 : Hid _ := q2
       have N2 : Hid (Nx w S z1 S2) := N1.out.trans n2
       clear q2 n2 HN N1
       go_wp2
       go_roundw
       case rel => exact ⟨1, S2, by go_num, by omega, Q2.out, N2.out⟩
       case measure => simp [intOf]
     ·obtain rfl : i = 1 := by omega
      have HZ1 : Hid (DW wr S1 L (oB x p v 1) ∧ Nx w S wr S1) := ⟨hh, n1⟩
      clear hh n1 hi hlt
      go_wp2_with fail
      refine Calls.mono (HT.out _ _ HZ1.out.1) ?_; rintro e z2 ⟨rfl, hz⟩
      have HZ : Hid (DNx w S L (oB x p v 1).tell z2) := .trans HZ1.out.2 hz
      clear hz HZ1 HT
      go_wp2
      go_ret
      exact ⟨rfl, HZ.out⟩
   ·obtain rfl : n = 2 := by omega
    clear hn hn' n4
    go_enter Tryz.func35, Tryz.ntmps35
    go_wp2
    go_loopw [9] (fun s9 wr => ∃ (i : Nat) (S' : Nat → Prop), s9 = .int .i64 i ∧ i ≤ 2 ∧ DW wr S' L (oB x p v i) ∧ Nx w S wr S') (fun s9 _ => 4 - (intOf s9).toNat)
    case atStart => exact ⟨0, S, rfl, by omega, P0.out.1, Nx.refl _ _⟩
    case round =>
     obtain ⟨i, S1, rfl, hi, hh, n1⟩ := hrel
     by_cases hlt : i < 2
     ·obtain ⟨u, hu⟩ : ∃ u, u = v / 256 ^ i % 256 := ⟨_, rfl⟩
      have hub : Byt u := by rw [hu]; exact ⟨by omega, by omega⟩
      obtain ⟨kk, kw⟩ := KW.out i
      have HN : Hid (Calls Tryz.prog 80 #[.pointer (some ⟨L.B, 0, none⟩), .int .u16 (pi p i), .int .u8 u] wr fun e w' => e = .returned (.tuple #[]) ∧ DNx wr S1 L (oB x p v (i + 1)) w') := by
       have := rout_ok hh kk (pi p i) (pi_bd _ _).1 (pi_bd _ _).2 u hub (by have := HZ0.out; omega)
       rw [hu] at this
       rw [hu]
       exact this
      obtain ⟨pp, hpp⟩ : ∃ pp, pp = pi p i := ⟨_, rfl⟩
      rw [← hpp] at HN
      have u0 := hub.1
      have u1 := hub.2
      have N1 : Hid (Nx w S wr S1) := n1
      have i4 : i = 0 ∨ i = 1 := by omega
      clear hh kk kw hub n1 hi hlt
      rcases i4 with rfl | rfl
      ·have g1 : v % 256 = u := by rw [hu, Int.pow_zero, Int.ediv_one]
       have g2 : IntKind.u8.wrap u = u := by rw [IntKind.wrap_u8]; omega
       have e0 : pp = p := by rw [hpp, pi_0 p0 p1]
       rw [e0] at HN
       clear e0
       clear hu hpp
       go_wp2_with fail
       refine Calls.mono HN.out ?_; rintro e z1 ⟨rfl, S2, q2, n2⟩
       have Q2 : Hid _ := q2
       have N2 : Hid (Nx w S z1 S2) := N1.out.trans n2
       clear q2 n2 HN N1
       go_wp2
       go_roundw
       case rel => exact ⟨1, S2, by go_num, by omega, Q2.out, N2.out⟩
       case measure => simp [intOf]
      ·have g1 : v / 256 % 256 = u := by rw [hu]; rfl
       have g2 : IntKind.u8.wrap u = u := by rw [IntKind.wrap_u8]; omega
       have f3 : (p + 1) % 65536 = pp := by rw [hpp]; rfl
       have f4 : IntKind.u16.wrap (p + 1) = pp := by rw [IntKind.wrap_u16]; exact f3
       clear hu hpp
       go_wp2_with fail
       refine Calls.mono HN.out ?_; rintro e z1 ⟨rfl, S2, q2, n2⟩
       have Q2 : Hid _ := q2
       have N2 : Hid (Nx w S z1 S2) := N1.out.trans n2
       clear q2 n2 HN N1
       go_wp2
       go_roundw
       case rel => exact ⟨2, S2, by go_num, by omega, Q2.out, N2.out⟩
       case measure => simp [intOf]
     ·obtain rfl : i = 2 := by omega
      have HZ1 : Hid (DW wr S1 L (oB x p v 2) ∧ Nx w S wr S1) := ⟨hh, n1⟩
      clear hh n1 hi hlt
      go_wp2_with fail
      refine Calls.mono (HT.out _ _ HZ1.out.1) ?_; rintro e z2 ⟨rfl, hz⟩
      have HZ : Hid (DNx w S L (oB x p v 2).tell z2) := .trans HZ1.out.2 hz
      clear hz HZ1 HT
      go_wp2
      go_ret
      exact ⟨rfl, HZ.out⟩
   ·obtain rfl : n = 4 := by omega
    clear hn hn' n4
    go_enter Tryz.func35, Tryz.ntmps35
    go_wp2
    go_loopw [9] (fun s9 wr => ∃ (i : Nat) (S' : Nat → Prop), s9 = .int .i64 i ∧ i ≤ 4 ∧ DW wr S' L (oB x p v i) ∧ Nx w S wr S') (fun s9 _ => 4 - (intOf s9).toNat)
    case atStart => exact ⟨0, S, rfl, by omega, P0.out.1, Nx.refl _ _⟩
    case round =>
     obtain ⟨i, S1, rfl, hi, hh, n1⟩ := hrel
     by_cases hlt : i < 4
     ·obtain ⟨u, hu⟩ : ∃ u, u = v / 256 ^ i % 256 := ⟨_, rfl⟩
      have hub : Byt u := by rw [hu]; exact ⟨by omega, by omega⟩
      obtain ⟨kk, kw⟩ := KW.out i
      have HN : Hid (Calls Tryz.prog 80 #[.pointer (some ⟨L.B, 0, none⟩), .int .u16 (pi p i), .int .u8 u] wr fun e w' => e = .returned (.tuple #[]) ∧ DNx wr S1 L (oB x p v (i + 1)) w') := by
       have := rout_ok hh kk (pi p i) (pi_bd _ _).1 (pi_bd _ _).2 u hub (by have := HZ0.out; omega)
       rw [hu] at this
       rw [hu]
       exact this
      obtain ⟨pp, hpp⟩ : ∃ pp, pp = pi p i := ⟨_, rfl⟩
      rw [← hpp] at HN
      have u0 := hub.1
      have u1 := hub.2
      have N1 : Hid (Nx w S wr S1) := n1
      have i4 : i = 0 ∨ i = 1 ∨ i = 2 ∨ i = 3 := by omega
      clear hh kk kw hub n1 hi hlt
      rcases i4 with rfl | rfl | rfl | rfl
      ·have g1 : v % 256 = u := by rw [hu, Int.pow_zero, Int.ediv_one]
       have g2 : IntKind.u8.wrap u = u := by rw [IntKind.wrap_u8]; omega
       have e0 : pp = p := by rw [hpp, pi_0 p0 p1]
       rw [e0] at HN
       clear e0
       clear hu hpp
       go_wp2_with fail
       refine Calls.mono HN.out ?_; rintro e z1 ⟨rfl, S2, q2, n2⟩
       have Q2 : Hid _ := q2
       have N2 : Hid (Nx w S z1 S2) := N1.out.trans n2
       clear q2 n2 HN N1
       go_wp2
       go_roundw
       case rel => exact ⟨1, S2, by go_num, by omega, Q2.out, N2.out⟩
       case measure => simp [intOf]
      ·have g1 : v / 256 % 256 = u := by rw [hu]; rfl
       have g2 : IntKind.u8.wrap u = u := by rw [IntKind.wrap_u8]; omega
       have f3 : (p + 1) % 65536 = pp := by rw [hpp]; rfl
       have f4 : IntKind.u16.wrap (p + 1) = pp := by rw [IntKind.wrap_u16]; exact f3
       clear hu hpp
       go_wp2_with fail
       refine Calls.mono HN.out ?_; rintro e z1 ⟨rfl, S2, q2, n2⟩
       have Q2 : Hid _ := q2
       have N2 : Hid (Nx w S z1 S2) := N1.out.trans n2
       clear q2 n2 HN N1
       go_wp2
       go_roundw
       case rel => exact ⟨2, S2, by go_num, by omega, Q2.out, N2.out⟩
       case measure => simp [intOf]
      ·have g1 : v / 65536 % 256 = u := by rw [hu]; rfl
       have g2 : IntKind.u8.wrap u = u := by rw [IntKind.wrap_u8]; omega
       have f3 : (p + 2) % 65536 = pp := by rw [hpp]; rfl
       have f4 : IntKind.u16.wrap (p + 2) = pp := by rw [IntKind.wrap_u16]; exact f3
       clear hu hpp
       go_wp2_with fail
       refine Calls.mono HN.out ?_; rintro e z1 ⟨rfl, S2, q2, n2⟩
       have Q2 : Hid _ := q2
       have N2 : Hid (Nx w S z1 S2) := N1.out.trans n2
       clear q2 n2 HN N1
       go_wp2
       go_roundw
       case rel => exact ⟨3, S2, by go_num, by omega, Q2.out, N2.out⟩
       case measure => simp [intOf]
      ·have g1 : v / 16777216 % 256 = u := by rw [hu]; rfl
       have g2 : IntKind.u8.wrap u = u := by rw [IntKind.wrap_u8]; omega
       have f3 : (p + 3) % 65536 = pp := by rw [hpp]; rfl
       have f4 : IntKind.u16.wrap (p + 3) = pp := by rw [IntKind.wrap_u16]; exact f3
       clear hu hpp
       go_wp2_with fail
       refine Calls.mono HN.out ?_; rintro e z1 ⟨rfl, S2, q2, n2⟩
       have Q2 : Hid _ := q2
       have N2 : Hid (Nx w S z1 S2) := N1.out.trans n2
       clear q2 n2 HN N1
       go_wp2
       go_roundw
       case rel => exact ⟨4, S2, by go_num, by omega, Q2.out, N2.out⟩
       case measure => simp [intOf]
     ·obtain rfl : i = 4 := by omega
      have HZ1 : Hid (DW wr S1 L (oB x p v 4) ∧ Nx w S wr S1) := ⟨hh, n1⟩
      clear hh n1 hi hlt
      go_wp2_with fail
      refine Calls.mono (HT.out _ _ HZ1.out.1) ?_; rintro e z2 ⟨rfl, hz⟩
      have HZ : Hid (DNx w S L (oB x p v 4).tell z2) := .trans HZ1.out.2 hz
      clear hz HZ1 HT
      go_wp2
      go_ret
      exact ⟨rfl, HZ.out⟩
 ·have es : erS s = 2 := by unfold erS; rw [if_neg hs]
  have ex : x.out p s v = x := by unfold Bm.out; rw [if_neg hs]
  rw [es, ex]
  have HZ : Hid (DNx w S L x w) := .refl h
  have q1 : (s != 1) = true := by simpa using fun e => hs (.inl e)
  have q2 : (s != 2) = true := by simpa using fun e => hs (.inr (.inl e))
  have q4 : (s != 4) = true := by simpa using fun e => hs (.inr (.inr e))
  clear h k hw hs es ex
  go_enter Tryz.func35, Tryz.ntmps35
  go_wp2
  go_ret
  exact ⟨rfl, HZ.out⟩
set_option maxHeartbeats 2000000 in
theorem dIn_ok (h : DW w S L x) (k : x.Ok) (p s : Int) (p0 : 0 ≤ p) (p1 : p < 65536) : Calls Tryz.prog 36 #[.pointer (some ⟨L.B, 0, none⟩), .int .u16 p, .int .i64 s] w fun e w' => e = .returned (.tuple #[.int .u32 (x.innV p s), .int .i64 (erS s)]) ∧ DNx w S L (x.inn p s) w' := by
 by_cases hs : okS s
 ·have es : erS s = 0 := by unfold erS; rw [if_pos hs]
  have ex : x.inn p s = (x.got p s).tell := by unfold Bm.inn; rw [if_pos hs]
  have ev : x.innV p s = x.gotV p s := by unfold Bm.innV; rw [if_pos hs]
  rw [es, ex, ev]
  have hk := k.got p s
  have HT : Hid (∀ W S1, DW W S1 L (x.got p s) → _) := fun W S1 h => lines_ok h hk
  by_cases hp : p = 496
  ·subst hp
   have ep : x.got 496 s = { x with d := x.d.i 0 s } := by unfold Bm.got; rw [if_pos rfl]
   have eq : x.gotV 496 s = x.d.iV 0 s := by unfold Bm.gotV; rw [if_pos rfl]
   have HA : Hid (Calls Tryz.prog 81 #[.pointer (some ⟨L.I, 0, none⟩), .int .i64 0, .int .i64 s] w fun e w' => e = .returned (.tuple #[.int .u32 (x.gotV 496 s), .int .i64 (Dk.ck 0 s)]) ∧ DNx w S L (x.got 496 s) w') := by
    rw [ep, eq]
    exact dIde h (fun T q => Dk.xIn q k.d 0 s)
   generalize x.got 496 s = X at *
   generalize x.gotV 496 s = V at *
   generalize Dk.ck 0 s = y at *
   have c4 := h.c4
   clear h k es ex ep hk ev eq
   rcases hs with rfl | rfl | rfl
   all_goals
    go_enter Tryz.func36, Tryz.ntmps36
    go_wp2_with fail
    refine Calls.mono HA.out ?_; rintro e z1 ⟨rfl, S1, q1, n1⟩
    have N1 : Hid _ := n1
    have Q1 : Hid _ := q1
    clear q1 n1 HA c4
    go_wp2_with fail
    refine Calls.mono (HT.out _ _ Q1.out) ?_; rintro e z2 ⟨rfl, hz⟩
    have HZ : Hid (DNx w S L X.tell z2) := .trans N1.out hz
    clear hz N1 Q1 HT
    go_wp2
    go_ret2
    exact ⟨rfl, HZ.out⟩
  ·have hp' : (p == 496) = false := by rw [beq_eq_false_iff_ne]; exact hp
   have n4 : 1 ≤ s ∧ s ≤ 4 := by unfold okS at hs; omega
   obtain ⟨n, hn⟩ : ∃ n : Nat, s = n := ⟨s.toNat, by omega⟩
   have hn' : s.toNat = n := by omega
   have ep : x.got p s = bN x p n := by
    unfold Bm.got
    rw [if_neg hp, hn']
    have := inN_bN n x p 0
    rw [pi_0 p0 p1, Nat.zero_add] at this
    exact this
   have eq : x.gotV p s = Bm.inVN n (bN x p 0) (pi p 0) := by
    unfold Bm.gotV
    rw [if_neg hp, hn', pi_0 p0 p1]
    rfl
   rw [ep] at HT ⊢
   rw [eq]
   obtain ⟨V, hV⟩ : ∃ V, V = Bm.inVN n (bN x p 0) (pi p 0) := ⟨_, rfl⟩
   rw [← hV]
   have P0 : Hid (DW w S L x ∧ x.Ok) := ⟨h, k⟩
   have EV : Hid (0 + pw 0 * Bm.inVN (n - 0) (bN x p 0) (pi p 0) = V) := by rw [hV]; show 0 + pw 0 * _ = _; simp [pw]
   clear h k es ex hk ep eq hV ev
   unfold okS at hs
   rcases hs with rfl | rfl | rfl
   ·obtain rfl : n = 1 := by omega
    clear hn hn' n4
    go_enter Tryz.func36, Tryz.ntmps36
    go_wp2
    go_loopw [8, 9] (fun s8 s9 wr => ∃ (i : Nat) (acc : Int) (S' : Nat → Prop), s8 = .int .u32 acc ∧ s9 = .int .i64 i ∧ i ≤ 1 ∧ 0 ≤ acc ∧ acc < pw i ∧ acc + pw i * Bm.inVN (1 - i) (bN x p i) (pi p i) = V ∧ DW wr S' L (bN x p i) ∧ Nx w S wr S') (fun _ s9 _ => 4 - (intOf s9).toNat)
    case atStart => exact ⟨0, 0, S, rfl, rfl, by omega, by decide, by decide, EV.out, P0.out.1, Nx.refl _ _⟩
    case round =>
     clear EV
     obtain ⟨i, acc, S1, rfl, rfl, hi, ac0, ac1, ev, hh, n1⟩ := hrel
     by_cases hlt : i < 1
     ·obtain ⟨j, hj⟩ : ∃ j, 1 - i = j + 1 := ⟨1 - i - 1, by omega⟩
      have HJ : Hid (1 - (i + 1) = j) := by show 1 - (i + 1) = j; omega
      rw [hj, inVN_bN] at ev
      have kb := bN_ok P0.out.2 p i
      have ob : Byt ((bN x p i).inV1 (pi p i)) := inV1_byt kb _
      obtain ⟨ac, ev⟩ := rd_acc (j := j) (by omega) ob ac0 ac1 ev
      have HN : Hid (Calls Tryz.prog 82 #[.pointer (some ⟨L.B, 0, none⟩), .int .u16 (pi p i)] wr fun e w' => e = .returned (.int .u8 ((bN x p i).inV1 (pi p i))) ∧ DNx wr S1 L (bN x p (i + 1)) w') := rin_ok hh kb (pi p i) (pi_bd _ _).1 (pi_bd _ _).2
      generalize (bN x p i).inV1 (pi p i) = o at *
      obtain ⟨pp, hpp⟩ : ∃ pp, pp = pi p i := ⟨_, rfl⟩
      rw [← hpp] at HN
      have EQ : Hid _ := ev
      have AC : Hid _ := ac
      have o0 := ob.1
      have o2 := ob.2
      have i4 : i = 0 := by omega
      have A1 : Hid (acc < pw i) := ac1
      have N1 : Hid (Nx w S wr S1) := n1
      clear ev ac ob hh ac1 n1 kb hj hi hlt
      rcases i4 with rfl
      ·have a1 := A1.out
       have a3 : acc < 1 := by simpa [pw] using a1
       have a4 : acc = 0 := by omega
       subst a4
       have e0 : pp = p := by rw [hpp, pi_0 p0 p1]
       rw [e0] at HN
       clear e0
       clear a1 A1 hpp
       go_wp2_with fail
       refine Calls.mono HN.out ?_; rintro e z1 ⟨rfl, S2, q2, n2⟩
       have Q2 : Hid _ := q2
       have N2 : Hid (Nx w S z1 S2) := N1.out.trans n2
       clear q2 n2 HN N1
       go_wp2
       go_roundw
       case rel => exact ⟨1, _, S2, rfl, by go_num, by omega, (by have := AC.out.1; simp [pw] at this ⊢ <;> omega), (by have := AC.out.2; simp [pw] at this ⊢ <;> omega), (by rw [HJ.out]; have := EQ.out; simp [pw] at this ⊢ <;> omega), Q2.out, N2.out⟩
       case measure => simp [intOf]
     ·obtain rfl : i = 1 := by omega
      have HZ1 : Hid (DW wr S1 L (bN x p 1) ∧ Nx w S wr S1) := ⟨hh, n1⟩
      have eV : acc = V := by
       rw [← ev]
       show acc = acc + pw 1 * 0
       omega
      subst eV
      clear hh n1 ev ac1 hi hlt
      go_wp2_with fail
      refine Calls.mono (HT.out _ _ HZ1.out.1) ?_; rintro e z2 ⟨rfl, hz⟩
      have HZ : Hid (DNx w S L (bN x p 1).tell z2) := .trans HZ1.out.2 hz
      clear hz HZ1 HT
      go_wp2
      go_ret2
      exact ⟨rfl, HZ.out⟩
   ·obtain rfl : n = 2 := by omega
    clear hn hn' n4
    go_enter Tryz.func36, Tryz.ntmps36
    go_wp2
    go_loopw [8, 9] (fun s8 s9 wr => ∃ (i : Nat) (acc : Int) (S' : Nat → Prop), s8 = .int .u32 acc ∧ s9 = .int .i64 i ∧ i ≤ 2 ∧ 0 ≤ acc ∧ acc < pw i ∧ acc + pw i * Bm.inVN (2 - i) (bN x p i) (pi p i) = V ∧ DW wr S' L (bN x p i) ∧ Nx w S wr S') (fun _ s9 _ => 4 - (intOf s9).toNat)
    case atStart => exact ⟨0, 0, S, rfl, rfl, by omega, by decide, by decide, EV.out, P0.out.1, Nx.refl _ _⟩
    case round =>
     clear EV
     obtain ⟨i, acc, S1, rfl, rfl, hi, ac0, ac1, ev, hh, n1⟩ := hrel
     by_cases hlt : i < 2
     ·obtain ⟨j, hj⟩ : ∃ j, 2 - i = j + 1 := ⟨2 - i - 1, by omega⟩
      have HJ : Hid (2 - (i + 1) = j) := by show 2 - (i + 1) = j; omega
      rw [hj, inVN_bN] at ev
      have kb := bN_ok P0.out.2 p i
      have ob : Byt ((bN x p i).inV1 (pi p i)) := inV1_byt kb _
      obtain ⟨ac, ev⟩ := rd_acc (j := j) (by omega) ob ac0 ac1 ev
      have HN : Hid (Calls Tryz.prog 82 #[.pointer (some ⟨L.B, 0, none⟩), .int .u16 (pi p i)] wr fun e w' => e = .returned (.int .u8 ((bN x p i).inV1 (pi p i))) ∧ DNx wr S1 L (bN x p (i + 1)) w') := rin_ok hh kb (pi p i) (pi_bd _ _).1 (pi_bd _ _).2
      generalize (bN x p i).inV1 (pi p i) = o at *
      obtain ⟨pp, hpp⟩ : ∃ pp, pp = pi p i := ⟨_, rfl⟩
      rw [← hpp] at HN
      have EQ : Hid _ := ev
      have AC : Hid _ := ac
      have o0 := ob.1
      have o2 := ob.2
      have i4 : i = 0 ∨ i = 1 := by omega
      have A1 : Hid (acc < pw i) := ac1
      have N1 : Hid (Nx w S wr S1) := n1
      clear ev ac ob hh ac1 n1 kb hj hi hlt
      rcases i4 with rfl | rfl
      ·have a1 := A1.out
       have a3 : acc < 1 := by simpa [pw] using a1
       have a4 : acc = 0 := by omega
       subst a4
       have e0 : pp = p := by rw [hpp, pi_0 p0 p1]
       rw [e0] at HN
       clear e0
       clear a1 A1 hpp
       go_wp2_with fail
       refine Calls.mono HN.out ?_; rintro e z1 ⟨rfl, S2, q2, n2⟩
       have Q2 : Hid _ := q2
       have N2 : Hid (Nx w S z1 S2) := N1.out.trans n2
       clear q2 n2 HN N1
       go_wp2
       go_roundw
       case rel => exact ⟨1, _, S2, rfl, by go_num, by omega, (by have := AC.out.1; simp [pw] at this ⊢ <;> omega), (by have := AC.out.2; simp [pw] at this ⊢ <;> omega), (by rw [HJ.out]; have := EQ.out; simp [pw] at this ⊢ <;> omega), Q2.out, N2.out⟩
       case measure => simp [intOf]
      ·have a1 := A1.out
       have a3 : acc < 256 := by simpa [pw] using a1
       have f3 : (p + 1) % 65536 = pp := by rw [hpp]; rfl
       have f4 : IntKind.u16.wrap (p + 1) = pp := by rw [IntKind.wrap_u16]; exact f3
       clear a1 A1 hpp
       go_wp2_with fail
       refine Calls.mono HN.out ?_; rintro e z1 ⟨rfl, S2, q2, n2⟩
       have Q2 : Hid _ := q2
       have N2 : Hid (Nx w S z1 S2) := N1.out.trans n2
       clear q2 n2 HN N1
       go_wp2
       go_roundw
       case rel => exact ⟨2, _, S2, rfl, by go_num, by omega, (by have := AC.out.1; simp [pw] at this ⊢ <;> omega), (by have := AC.out.2; simp [pw] at this ⊢ <;> omega), (by rw [HJ.out]; have := EQ.out; simp [pw] at this ⊢ <;> omega), Q2.out, N2.out⟩
       case measure => simp [intOf]
     ·obtain rfl : i = 2 := by omega
      have HZ1 : Hid (DW wr S1 L (bN x p 2) ∧ Nx w S wr S1) := ⟨hh, n1⟩
      have eV : acc = V := by
       rw [← ev]
       show acc = acc + pw 2 * 0
       omega
      subst eV
      clear hh n1 ev ac1 hi hlt
      go_wp2_with fail
      refine Calls.mono (HT.out _ _ HZ1.out.1) ?_; rintro e z2 ⟨rfl, hz⟩
      have HZ : Hid (DNx w S L (bN x p 2).tell z2) := .trans HZ1.out.2 hz
      clear hz HZ1 HT
      go_wp2
      go_ret2
      exact ⟨rfl, HZ.out⟩
   ·obtain rfl : n = 4 := by omega
    clear hn hn' n4
    go_enter Tryz.func36, Tryz.ntmps36
    go_wp2
    go_loopw [8, 9] (fun s8 s9 wr => ∃ (i : Nat) (acc : Int) (S' : Nat → Prop), s8 = .int .u32 acc ∧ s9 = .int .i64 i ∧ i ≤ 4 ∧ 0 ≤ acc ∧ acc < pw i ∧ acc + pw i * Bm.inVN (4 - i) (bN x p i) (pi p i) = V ∧ DW wr S' L (bN x p i) ∧ Nx w S wr S') (fun _ s9 _ => 4 - (intOf s9).toNat)
    case atStart => exact ⟨0, 0, S, rfl, rfl, by omega, by decide, by decide, EV.out, P0.out.1, Nx.refl _ _⟩
    case round =>
     clear EV
     obtain ⟨i, acc, S1, rfl, rfl, hi, ac0, ac1, ev, hh, n1⟩ := hrel
     by_cases hlt : i < 4
     ·obtain ⟨j, hj⟩ : ∃ j, 4 - i = j + 1 := ⟨4 - i - 1, by omega⟩
      have HJ : Hid (4 - (i + 1) = j) := by show 4 - (i + 1) = j; omega
      rw [hj, inVN_bN] at ev
      have kb := bN_ok P0.out.2 p i
      have ob : Byt ((bN x p i).inV1 (pi p i)) := inV1_byt kb _
      obtain ⟨ac, ev⟩ := rd_acc (j := j) (by omega) ob ac0 ac1 ev
      have HN : Hid (Calls Tryz.prog 82 #[.pointer (some ⟨L.B, 0, none⟩), .int .u16 (pi p i)] wr fun e w' => e = .returned (.int .u8 ((bN x p i).inV1 (pi p i))) ∧ DNx wr S1 L (bN x p (i + 1)) w') := rin_ok hh kb (pi p i) (pi_bd _ _).1 (pi_bd _ _).2
      generalize (bN x p i).inV1 (pi p i) = o at *
      obtain ⟨pp, hpp⟩ : ∃ pp, pp = pi p i := ⟨_, rfl⟩
      rw [← hpp] at HN
      have EQ : Hid _ := ev
      have AC : Hid _ := ac
      have o0 := ob.1
      have o2 := ob.2
      have i4 : i = 0 ∨ i = 1 ∨ i = 2 ∨ i = 3 := by omega
      have A1 : Hid (acc < pw i) := ac1
      have N1 : Hid (Nx w S wr S1) := n1
      clear ev ac ob hh ac1 n1 kb hj hi hlt
      rcases i4 with rfl | rfl | rfl | rfl
      ·have a1 := A1.out
       have a3 : acc < 1 := by simpa [pw] using a1
       have a4 : acc = 0 := by omega
       subst a4
       have e0 : pp = p := by rw [hpp, pi_0 p0 p1]
       rw [e0] at HN
       clear e0
       clear a1 A1 hpp
       go_wp2_with fail
       refine Calls.mono HN.out ?_; rintro e z1 ⟨rfl, S2, q2, n2⟩
       have Q2 : Hid _ := q2
       have N2 : Hid (Nx w S z1 S2) := N1.out.trans n2
       clear q2 n2 HN N1
       go_wp2
       go_roundw
       case rel => exact ⟨1, _, S2, rfl, by go_num, by omega, (by have := AC.out.1; simp [pw] at this ⊢ <;> omega), (by have := AC.out.2; simp [pw] at this ⊢ <;> omega), (by rw [HJ.out]; have := EQ.out; simp [pw] at this ⊢ <;> omega), Q2.out, N2.out⟩
       case measure => simp [intOf]
      ·have a1 := A1.out
       have a3 : acc < 256 := by simpa [pw] using a1
       have f3 : (p + 1) % 65536 = pp := by rw [hpp]; rfl
       have f4 : IntKind.u16.wrap (p + 1) = pp := by rw [IntKind.wrap_u16]; exact f3
       clear a1 A1 hpp
       go_wp2_with fail
       refine Calls.mono HN.out ?_; rintro e z1 ⟨rfl, S2, q2, n2⟩
       have Q2 : Hid _ := q2
       have N2 : Hid (Nx w S z1 S2) := N1.out.trans n2
       clear q2 n2 HN N1
       go_wp2
       go_roundw
       case rel => exact ⟨2, _, S2, rfl, by go_num, by omega, (by have := AC.out.1; simp [pw] at this ⊢ <;> omega), (by have := AC.out.2; simp [pw] at this ⊢ <;> omega), (by rw [HJ.out]; have := EQ.out; simp [pw] at this ⊢ <;> omega), Q2.out, N2.out⟩
       case measure => simp [intOf]
      ·have a1 := A1.out
       have a3 : acc < 65536 := by simpa [pw] using a1
       have f3 : (p + 2) % 65536 = pp := by rw [hpp]; rfl
       have f4 : IntKind.u16.wrap (p + 2) = pp := by rw [IntKind.wrap_u16]; exact f3
       clear a1 A1 hpp
       go_wp2_with fail
       refine Calls.mono HN.out ?_; rintro e z1 ⟨rfl, S2, q2, n2⟩
       have Q2 : Hid _ := q2
       have N2 : Hid (Nx w S z1 S2) := N1.out.trans n2
       clear q2 n2 HN N1
       go_wp2
       go_roundw
       case rel => exact ⟨3, _, S2, rfl, by go_num, by omega, (by have := AC.out.1; simp [pw] at this ⊢ <;> omega), (by have := AC.out.2; simp [pw] at this ⊢ <;> omega), (by rw [HJ.out]; have := EQ.out; simp [pw] at this ⊢ <;> omega), Q2.out, N2.out⟩
       case measure => simp [intOf]
      ·have a1 := A1.out
       have a3 : acc < 16777216 := by simpa [pw] using a1
       have f3 : (p + 3) % 65536 = pp := by rw [hpp]; rfl
       have f4 : IntKind.u16.wrap (p + 3) = pp := by rw [IntKind.wrap_u16]; exact f3
       clear a1 A1 hpp
       go_wp2_with fail
       refine Calls.mono HN.out ?_; rintro e z1 ⟨rfl, S2, q2, n2⟩
       have Q2 : Hid _ := q2
       have N2 : Hid (Nx w S z1 S2) := N1.out.trans n2
       clear q2 n2 HN N1
       go_wp2
       go_roundw
       case rel => exact ⟨4, _, S2, rfl, by go_num, by omega, (by have := AC.out.1; simp [pw] at this ⊢ <;> omega), (by have := AC.out.2; simp [pw] at this ⊢ <;> omega), (by rw [HJ.out]; have := EQ.out; simp [pw] at this ⊢ <;> omega), Q2.out, N2.out⟩
       case measure => simp [intOf]
     ·obtain rfl : i = 4 := by omega
      have HZ1 : Hid (DW wr S1 L (bN x p 4) ∧ Nx w S wr S1) := ⟨hh, n1⟩
      have eV : acc = V := by
       rw [← ev]
       show acc = acc + pw 4 * 0
       omega
      subst eV
      clear hh n1 ev ac1 hi hlt
      go_wp2_with fail
      refine Calls.mono (HT.out _ _ HZ1.out.1) ?_; rintro e z2 ⟨rfl, hz⟩
      have HZ : Hid (DNx w S L (bN x p 4).tell z2) := .trans HZ1.out.2 hz
      clear hz HZ1 HT
      go_wp2
      go_ret2
      exact ⟨rfl, HZ.out⟩
 ·have es : erS s = 2 := by unfold erS; rw [if_neg hs]
  have ex : x.inn p s = x := by unfold Bm.inn; rw [if_neg hs]
  have ev : x.innV p s = 0 := by unfold Bm.innV; rw [if_neg hs]
  rw [es, ex, ev]
  have HZ : Hid (DNx w S L x w) := .refl h
  have q1 : (s != 1) = true := by simpa using fun e => hs (.inl e)
  have q2 : (s != 2) = true := by simpa using fun e => hs (.inr (.inl e))
  have q4 : (s != 4) = true := by simpa using fun e => hs (.inr (.inr e))
  clear h k hs es ex ev
  go_enter Tryz.func36, Tryz.ntmps36
  go_wp2
  go_ret2
  exact ⟨rfl, HZ.out⟩
theorem dPush_ok (h : DW w S L x) (k : x.Ok) (v : Int) (hv : Byt v) : Calls Tryz.prog 39 #[.pointer (some ⟨L.B, 0, none⟩), .int .u8 v] w fun e w' => e = .returned (.tuple #[]) ∧ DNx w S L (x.push v) w' := by
 have HA : Hid (Calls Tryz.prog 84 #[.pointer (some ⟨L.U, 0, none⟩), .int .u8 v] w fun e w' => e = .returned (.tuple #[]) ∧ DNx w S L { x with u := x.u.push v } w') := dUart h (fun T q => Ut.xPush q v)
 have hk : ({ x with u := x.u.push v } : Bm).Ok := { k with u := k.u.push hv }
 have HT : Hid (∀ W S1, DW W S1 L { x with u := x.u.push v } → _) := fun W S1 h => lines_ok h hk
 have c3 := h.c3
 have ex : x.push v = ({ x with u := x.u.push v } : Bm).tell := rfl
 rw [ex]
 generalize ({ x with u := x.u.push v } : Bm) = X at *
 clear h k hv hk ex
 go_enter Tryz.func39, Tryz.ntmps39
 go_wp2_with fail
 refine Calls.mono HA.out ?_; rintro e z1 ⟨rfl, S1, q1, n1⟩
 have N1 : Hid _ := n1
 have Q1 : Hid _ := q1
 clear q1 n1 HA c3
 go_wp2_with fail
 refine Calls.mono (HT.out _ _ Q1.out) ?_; rintro e z2 ⟨rfl, hz⟩
 have HZ : Hid (DNx w S L X.tell z2) := .trans N1.out hz
 clear hz N1 Q1 HT
 go_wp2
 go_end0
 exact ⟨rfl, HZ.out⟩
theorem dAck_ok (h : DW w S L x) (k : x.Ok) : Calls Tryz.prog 40 #[.pointer (some ⟨L.B, 0, none⟩)] w fun e w' => e = .returned (.int .i64 x.p.vec) ∧ DNx w S L x.ack w' := by
 have HA : Hid (Calls Tryz.prog 85 #[.pointer (some ⟨L.P, 0, none⟩)] w fun e w' => e = .returned (.int .i64 x.p.vec) ∧ DNx w S L { x with p := x.p.ack } w') := dPic h (fun T q => Pc.sAck w L.P _ T q)
 have hk : ({ x with p := x.p.ack } : Bm).Ok := { k with p := k.p.ack, st := ack_st k.p }
 have HT : Hid (∀ W S1, DW W S1 L { x with p := x.p.ack } → _) := fun W S1 h => lines_ok h hk
 have c1 := h.c1
 have ex : x.ack = ({ x with p := x.p.ack } : Bm).tell := rfl
 rw [ex]
 generalize ({ x with p := x.p.ack } : Bm) = X at *
 generalize x.p.vec = y at *
 clear h k hk ex
 go_enter Tryz.func40, Tryz.ntmps40
 go_wp2_with fail
 refine Calls.mono HA.out ?_; rintro e z1 ⟨rfl, S1, q1, n1⟩
 have N1 : Hid _ := n1
 have Q1 : Hid _ := q1
 clear q1 n1 HA c1
 go_wp2_with fail
 refine Calls.mono (HT.out _ _ Q1.out) ?_; rintro e z2 ⟨rfl, hz⟩
 have HZ : Hid (DNx w S L X.tell z2) := .trans N1.out hz
 clear hz N1 Q1 HT
 go_wp2
 go_ret
 exact ⟨rfl, HZ.out⟩
theorem dPend_ok (h : DW w S L x) : Calls Tryz.prog 12 #[.pointer (some ⟨L.P, 0, none⟩)] w fun e w' => e = .returned (.bool (x.p.a.next != -1)) ∧ Kp noB w w' := by
 obtain ⟨T, a, b⟩ := Sys.at h 2
 exact (Pc.sPend w L.P x.p T a.2).mono fun e w' ⟨q, r⟩ => ⟨q, kPc r⟩
set_option maxHeartbeats 1000000 in
theorem dTick_ok (h : DW w S L x) (k : x.Ok) (n : Nat) (n1 : n < 9223372036854775808) : Calls Tryz.prog 37 #[.pointer (some ⟨L.B, 0, none⟩), .int .i64 n] w fun e w' => e = .returned (.tuple #[]) ∧ DNx w S L (Bm.ticks n x) w' := by
 obtain ⟨X, hX⟩ : ∃ X, X = Bm.ticks n x := ⟨_, rfl⟩
 rw [← hX]
 have P0 : Hid (DW w S L x ∧ x.Ok) := ⟨h, k⟩
 have N0 : Hid (Nx w S w S) := Nx.refl _ _
 have E0 : Hid (Bm.ticks (n - 0) x = X) := hX.symm
 clear h k hX
 go_enter Tryz.func37, Tryz.ntmps37
 go_wp2
 go_loopw [4] (fun s4 wr => ∃ (i : Nat) (x' : Bm) (S' : Nat → Prop), s4 = .int .i64 i ∧ i ≤ n ∧ (DW wr S' L x' ∧ x'.Ok) ∧ Nx w S wr S' ∧ Bm.ticks (n - i) x' = X) (fun s4 _ => ((n : Int) - intOf s4).toNat)
 case atStart => exact ⟨0, x, S, rfl, by omega, P0.out, N0.out, E0.out⟩
 case round =>
  clear P0 N0 E0
  obtain ⟨i, x, S1, rfl, hi, ⟨h, k⟩, n2, e⟩ := hrel
  by_cases hlt : i < n
  ·obtain ⟨j, hj⟩ : ∃ j, n - i = j + 1 := ⟨n - i - 1, by omega⟩
   have hj' : n - (i + 1) = j := by omega
   rw [hj, ticks_succ] at e
   obtain ⟨t, ht⟩ : ∃ t, t = (x.now + 1) % 18446744073709551616 := ⟨_, rfl⟩
   have f1 : (x.now + 1) % 18446744073709551616 = t := ht.symm
   have f2 : IntKind.u64.wrap (x.now + 1) = t := by rw [IntKind.wrap_u64, ht]
   have hk : ({ x with now := t } : Bm).Ok := by rw [ht]; exact k.skip 1
   have et : x.tick1 = ({ x with now := t } : Bm).tell := by rw [ht]; rfl
   obtain ⟨S2, b1, b2⟩ := dTime h t
   have HT : Hid (Calls Tryz.prog 34 #[.pointer (some ⟨L.B, 0, none⟩)] (wr.setCell ⟨L.B, 5, none⟩ (.int .u64 t)) fun e w' => e = .returned (.tuple #[]) ∧ DNx (wr.setCell ⟨L.B, 5, none⟩ (.int .u64 t)) S2 L x.tick1 w') := by
    rw [et]
    exact lines_ok b1 hk
   have K1 : Hid x.tick1.Ok := k.tick1
   have N2 : Hid (Nx w S (wr.setCell ⟨L.B, 5, none⟩ (.int .u64 t)) S2) := n2.trans b2
   have EQ : Hid _ := e
   have c5 := h.c5
   have f5 := h.fz 5
   clear h k hk et b1 b2 n2 e ht
   go_wp2_with fail
   refine Calls.mono HT.out ?_; rintro e z1 ⟨rfl, S3, q3, n3⟩
   have Q3 : Hid _ := q3
   have N3 : Hid (Nx w S z1 S3) := N2.out.trans n3
   clear q3 n3 HT N2 c5 f5
   go_wp2
   go_roundw
   case rel => exact ⟨i + 1, _, S3, by go_num, by omega, ⟨Q3.out, K1.out⟩, N3.out, by rw [hj']; exact EQ.out⟩
   case measure => simp [intOf]; omega
  ·have HZ : Hid (DNx w S L X wr) := by
    rw [show n - i = 0 by omega] at e
    rw [← e]
    exact ⟨S1, h, n2⟩
   have hge : ¬ (i : Int) < n := by omega
   clear e h n2 k
   go_wp2
   go_end0
   exact ⟨rfl, HZ.out⟩
end
def sysR (Rs : Nat → Res) : Res := ⟨fun w S => Sys w S Rs, fun h k d => h.loc k d⟩
def busR (L : Loc) (x : Bm) : Res := sysR (busRs L x)
def docR (L : LocR) (x : Bm) : Res := sysR (docRs L x)
structure Hs (W w : World) (Rs : Nat → Res) : Prop where
 ex : ∃ S, Sys w S Rs ∧ ∀ k, S k → W.heap.size ≤ k
 kp : Kp noB W w
theorem Hs.none (W : World) : Hs W W (fun _ => .none) := ⟨⟨noB, Sys.none _, fun _ f => f.elim⟩, Kp.refl _ _⟩
section
variable {W w : World} {Rs : Nat → Res}
theorem Hs.mk' {S S' : Nat → Prop} {w' : World} {Rs' : Nat → Res} (kp : Kp noB W w) (hS : ∀ k, S k → W.heap.size ≤ k) (a : Sys w' S' Rs') (n : Nx w S w' S') : Hs W w' Rs' :=
 ⟨⟨S', a, fun k g => by
  rcases n.sub k g with f | f
  ·exact hS k f
  ·exact Nat.le_trans kp.size f⟩, kp.over n.kp (fun j hj g => by have := hS j g; omega)⟩
theorem Hs.keep {w' : World} (h : Hs W w Rs) (k : Kp noB w w') : Hs W w' Rs := by
 obtain ⟨S, a, b⟩ := h.ex
 exact ⟨⟨S, a.keep k, b⟩, h.kp.trans k⟩
theorem Hs.drew (h : Hs W w Rs) : Hs W w.drew Rs := h.keep (Kp.refl _ _).drew
theorem Hs.new {w' : World} {T' : Nat → Prop} (h : Hs W w Rs) {i : Nat} (hi : Rs i = .none) {r' : Res} (a : r'.R w' T') (n : ∀ k, T' k → w.heap.size ≤ k ∧ k < w'.heap.size) (k : Kp noB w w') : Hs W w' (updR Rs i r') := by
 obtain ⟨S, q, b⟩ := h.ex
 obtain ⟨S', c, d⟩ := q.new hi a n k
 exact .mk' h.kp b c d
theorem Hs.drop (h : Hs W w Rs) (i : Nat) : Hs W w (updR Rs i .none) := by
 obtain ⟨S, q, b⟩ := h.ex
 exact ⟨⟨S, q.drop i, b⟩, h.kp⟩
theorem Hs.call {f : FuncId} {args : Array Value} {E : Ending → World → Res → Prop} (h : Hs W w Rs) (i : Nat) (hc : ∀ T, (Rs i).R w T → Calls Tryz.prog f args w fun e w' => ∃ r' T', E e w' r' ∧ r'.R w' T' ∧ Nx w T w' T' ∧ ∀ k, T' k → k < w'.heap.size) : Calls Tryz.prog f args w fun e w' => ∃ r', E e w' r' ∧ Hs W w' (updR Rs i r') := by
 obtain ⟨S, q, b⟩ := h.ex
 obtain ⟨T, a1, a2, a3⟩ := q.fst i
 refine (hc T a1).mono fun e w' ⟨r', T', c1, c2, c3, c4⟩ => ?_
 obtain ⟨S', d1, d2⟩ := a3 r' w' T' c2 c3 c4
 exact ⟨r', c1, .mk' h.kp b d1 d2⟩
theorem Hs.bus {f : FuncId} {args : Array Value} {E : Ending → Prop} {L : Loc} {x x' : Bm} (h : Hs W w Rs) (i : Nat) (hi : Rs i = busR L x) (hc : ∀ S, BW w S L x → Calls Tryz.prog f args w fun e w' => E e ∧ BNx w S L x' w') : Calls Tryz.prog f args w fun e w' => E e ∧ Hs W w' (updR Rs i (busR L x')) := by
 refine (h.call (E := fun e w' r' => E e ∧ r' = busR L x') i (fun T a => ?_)).mono fun e w' ⟨r', ⟨q, r⟩, z⟩ => ⟨q, r ▸ z⟩
 rw [hi] at a
 exact (hc T a).mono fun e w' ⟨q, S', b, n⟩ => ⟨busR L x', fun k => S' k ∧ k < w'.heap.size, ⟨q, rfl⟩, b.lt, ⟨fun k g => n.sub k g.1, n.kp⟩, fun k g => g.2⟩
theorem Hs.doc {f : FuncId} {args : Array Value} {E : Ending → Prop} {L : LocR} {x x' : Bm} (h : Hs W w Rs) (i : Nat) (hi : Rs i = docR L x) (hc : ∀ S, DW w S L x → Calls Tryz.prog f args w fun e w' => E e ∧ DNx w S L x' w') : Calls Tryz.prog f args w fun e w' => E e ∧ Hs W w' (updR Rs i (docR L x')) := by
 refine (h.call (E := fun e w' r' => E e ∧ r' = docR L x') i (fun T a => ?_)).mono fun e w' ⟨r', ⟨q, r⟩, z⟩ => ⟨q, r ▸ z⟩
 rw [hi] at a
 exact (hc T a).mono fun e w' ⟨q, S', b, n⟩ => ⟨docR L x', fun k => S' k ∧ k < w'.heap.size, ⟨q, rfl⟩, b.lt, ⟨fun k g => n.sub k g.1, n.kp⟩, fun k g => g.2⟩
theorem Hs.busAt (h : Hs W w Rs) {i : Nat} {L : Loc} {x : Bm} (hi : Rs i = busR L x) : ∃ S, BW w S L x := by
 obtain ⟨S, q, b⟩ := h.ex
 obtain ⟨T, a, c⟩ := q.at i
 rw [hi] at a
 exact ⟨T, a⟩
theorem Hs.docAt (h : Hs W w Rs) {i : Nat} {L : LocR} {x : Bm} (hi : Rs i = docR L x) : ∃ S, DW w S L x := by
 obtain ⟨S, q, b⟩ := h.ex
 obtain ⟨T, a, c⟩ := q.at i
 rw [hi] at a
 exact ⟨T, a⟩
theorem upd_self {Rs : Nat → Res} {i : Nat} {r : Res} : updR Rs i r i = r := by
 unfold updR
 rw [if_pos rfl]
theorem upd_other {Rs : Nat → Res} {i j : Nat} (e : j ≠ i) {r : Res} : updR Rs i r j = Rs j := by
 unfold updR
 rw [if_neg e]
theorem upd_twice (Rs : Nat → Res) (i : Nat) (r r' : Res) : updR (updR Rs i r) i r' = updR Rs i r' := by
 funext j
 unfold updR
 by_cases h : j = i
 ·rw [if_pos h, if_pos h]
 ·rw [if_neg h, if_neg h, if_neg h]
end
def two (r r' : Res) : Nat → Res := fun j => if j = 0 then r else if j = 1 then r' else .none
theorem two_0 (r r' q : Res) : updR (two r r') 0 q = two q r' := by
 funext j
 match j with
 | 0 | 1 => rfl
 | n + 2 => rfl
theorem two_1 (r r' q : Res) : updR (two r r') 1 q = two r q := by
 funext j
 match j with
 | 0 | 1 => rfl
 | n + 2 => rfl
theorem none_0 (q : Res) : updR (fun _ => Res.none) 0 q = two q .none := by
 funext j
 match j with
 | 0 | 1 => rfl
 | n + 2 => rfl
def BothP (w : World) (x y : Bm) (e : Ending) (w' : World) : Prop := ∃ L L', e = .returned (.tuple #[.pointer (some ⟨L.B, 0, none⟩), .pointer (some ⟨L'.B, 0, none⟩), .pointer (some ⟨L.M + 3, 0, none⟩)]) ∧ Hs w w' (two (busR L x) (docR L' y))
theorem kBelow {w w' : World} (h : Below w.heap.size w w') : Kp noB w w' := ⟨h.os, h.tape, h.output, h.size, fun k hk _ => h.block k hk⟩
set_option maxHeartbeats 1000000 in
theorem both_ok (w : World) (n : Nat) (n0 : 1 ≤ n) (n1 : n ≤ 256) (a : Option Addr) (Ld c : Nat) (bt : Nat → Int) (hb : Dk.BytAt w a Ld bt) (hbd : ∀ j, j < Ld → 0 ≤ bt j ∧ bt j < 256) (h1 : Ld % 512 = 0) (h2 : Ld ≤ 32768) : Calls Tryz.prog 9 #[.int .i64 n, .slice a Ld c] w fun e w' => BothP w (bm0 (Ld / 512) (Dk.dB Ld bt) (Rm.mem0 n)).tell (bm0 (Ld / 512) (Dk.dB Ld bt) (Rm.mem0 n)).tell e w' := by
 have HM : Hid _ := Rm.new_ok w n n0 n1
 have HR : Hid (∀ W, _) := fun W => Rm.refNew_ok W n n0 n1
 have HB : Hid (∀ W, Kp noB w W → Dk.BytAt W a Ld bt) := fun W k => hb.kept (dkK k) (fun _ _ => id)
 have HN : Hid (∀ W S M m, Sys W S (ramRs M m) → Dk.BytAt W a Ld bt → _) := fun W S M m h hb => new_ok W S M m h a Ld c bt hb hbd h1 h2
 have HX : Hid (∀ W S M V0 V1 V2 V3 cl, Sys W S (memRs M (.cells #[V0, V1, V2, V3, .bool cl] 58 (0, 0))) → Dk.BytAt W a Ld bt → _) := fun W S M V0 V1 V2 V3 cl h hb => dnew_ok W S M V0 V1 V2 V3 cl h a Ld c bt hb hbd h1 h2 (Rm.mem0 n)
 clear hb hbd h1 h2
 generalize Ld / 512 = N at *
 generalize Dk.dB Ld bt = D at *
 go_enter Tryz.func9, Tryz.ntmps9
 go_wp2_with fail
 refine Calls.mono HM.out ?_; rintro e w1 ⟨rfl, m1, z1, b1⟩
 obtain ⟨M, hM⟩ : ∃ M, M = w.heap.size := ⟨_, rfl⟩
 rw [← hM] at m1
 have ml : M + 4 + n ≤ w1.heap.size := m1.lt
 have s1 : Sys w1 (Rm.inRam M n) (ramRs M (Rm.mem0 n)) := ⟨fun _ => 6, fun j => by
  by_cases q : j = 6
  ·subst q
   exact ⟨Rm.inRam M n, ⟨m1, fun k g => g⟩, fun k g => ⟨rfl, g, by have : k < M + 4 + n := g.2; omega⟩⟩
  ·exact ⟨noB, by unfold ramRs; rw [if_neg q]; trivial, fun _ f => f.elim⟩⟩
 have P1 : Hid (Hs w w1 (two (sysR (ramRs M (Rm.mem0 n))) .none)) := by
  rw [← none_0]
  exact (Hs.none w).new rfl s1 (fun k g => ⟨by have : M ≤ k := g.1; omega, by have : k < M + 4 + n := g.2; omega⟩) (kBelow b1)
 clear m1 z1 b1 ml s1 HM
 go_wp2_with fail
 rw [← hM]
 clear hM
 refine Calls.mono (HR.out w1) ?_; rintro e w2 ⟨R, rfl, r1, r2, r3⟩
 have P2 : Hid (Hs w w2 (two (sysR (ramRs M (Rm.mem0 n))) (sysR (memRs R.r (.cells #[.slice (some ⟨R.b, 0, none⟩) (4096 * n) (4096 * n), .slice (some ⟨R.o, 0, none⟩) n n, .slice (some ⟨R.t, 0, none⟩) (64 * n) (64 * n), .slice (some ⟨R.q, 0, none⟩) (64 * n) (64 * n), .bool false] 58 (0, 0)))))) := by
  rw [← two_1 _ .none]
  refine P1.out.new rfl (T' := isB R.r) ?_ (fun k (g : k = R.r) => ⟨by rw [g]; exact r2 _ (.inl rfl), by rw [g]; exact heap_lt r1.st⟩) (kRm r3)
  refine ⟨fun _ => 6, fun j => ?_⟩
  by_cases q : j = 6
  ·subst q
   exact ⟨isB R.r, ⟨rfl, r1.st⟩, fun k g => ⟨rfl, g, by rw [show k = R.r from g]; exact heap_lt r1.st⟩⟩
  ·exact ⟨noB, by unfold memRs; rw [if_neg q]; trivial, fun _ f => f.elim⟩
 clear r1 r2 r3 P1 HR
 generalize Value.slice (some ⟨R.b, 0, none⟩) (4096 * n) (4096 * n) = V0 at P2
 generalize Value.slice (some ⟨R.o, 0, none⟩) n n = V1 at P2
 generalize Value.slice (some ⟨R.t, 0, none⟩) (64 * n) (64 * n) = V2 at P2
 generalize Value.slice (some ⟨R.q, 0, none⟩) (64 * n) (64 * n) = V3 at P2
 obtain ⟨mO, hmO⟩ : ∃ o : Obj, o = .cells #[V0, V1, V2, V3, .bool false] 58 (0, 0) := ⟨_, rfl⟩
 have HC : Hid (Calls Tryz.prog 6 #[.pointer (some ⟨M + 3, 0, none⟩), .slice a Ld c] w2 fun e w' => ∃ L : Loc, e = .returned (.tuple #[.pointer (some ⟨L.B, 0, none⟩), .int .i64 0]) ∧ L.M = M ∧ Hs w w' (two (busR L (bm0 N D (Rm.mem0 n)).tell) (sysR (memRs R.r mO)))) := by
  rw [← hmO] at P2
  refine (P2.out.call (E := fun e w' r' => ∃ L : Loc, e = .returned (.tuple #[.pointer (some ⟨L.B, 0, none⟩), .int .i64 0]) ∧ L.M = M ∧ r' = busR L (bm0 N D (Rm.mem0 n)).tell) 0 (fun T a => ?_)).mono ?_
  ·refine (HN.out w2 T M (Rm.mem0 n) a (HB.out _ P2.out.kp)).mono ?_
   rintro e w' ⟨B, q, L, S', c1, c2, c3, c4⟩
   subst c1
   exact ⟨_, fun k => S' k ∧ k < w'.heap.size, ⟨L, q, c2, rfl⟩, Sys.lt c3, ⟨fun k g => c4.sub k g.1, c4.kp⟩, fun k g => g.2⟩
  ·rintro e w' ⟨r', ⟨L, q, c2, rfl⟩, z⟩
   rw [two_0] at z
   exact ⟨L, q, c2, z⟩
 have HC2 : Hid (∀ w' r', Hs w w' (two r' (sysR (memRs R.r mO))) → Calls Tryz.prog 8 #[.pointer (some ⟨R.r, 0, none⟩), .slice a Ld c] w' fun e w2 => ∃ L' : LocR, e = .returned (.tuple #[.pointer (some ⟨L'.B, 0, none⟩), .int .i64 0]) ∧ Hs w w2 (two r' (docR L' (bm0 N D (Rm.mem0 n)).tell))) := by
  intro w' r' hh
  rw [hmO] at hh
  refine (hh.call (E := fun e w' r' => ∃ L' : LocR, e = .returned (.tuple #[.pointer (some ⟨L'.B, 0, none⟩), .int .i64 0]) ∧ r' = docR L' (bm0 N D (Rm.mem0 n)).tell) 1 (fun T a => ?_)).mono ?_
  ·refine (HX.out w' T R.r V0 V1 V2 V3 false a (HB.out _ hh.kp)).mono ?_
   rintro e w2 ⟨B, q, L, S', c1, c2, c3, c4⟩
   subst c1
   exact ⟨_, fun k => S' k ∧ k < w2.heap.size, ⟨L, q, rfl⟩, Sys.lt c3, ⟨fun k g => c4.sub k g.1, c4.kp⟩, fun k g => g.2⟩
  ·rintro e w2 ⟨r2, ⟨L', q, rfl⟩, z⟩
   rw [two_1] at z
   exact ⟨L', q, z⟩
 clear P2 HN HX HB hmO
 go_wp2_with fail
 refine Calls.mono HC.out ?_; rintro e w3 ⟨L, rfl, eM, p3⟩
 have HC3 : Hid _ := HC2.out _ _ p3
 clear p3 HC HC2
 go_wp2_with fail
 refine Calls.mono HC3.out ?_; rintro e w4 ⟨L', rfl, p4⟩
 have HZ : Hid (BothP w (bm0 N D (Rm.mem0 n)).tell (bm0 N D (Rm.mem0 n)).tell (.returned (.tuple #[.pointer (some ⟨L.B, 0, none⟩), .pointer (some ⟨L'.B, 0, none⟩), .pointer (some ⟨M + 3, 0, none⟩)])) w4) := ⟨L, L', by rw [eM], p4⟩
 clear p4 HC3 eM
 go_wp2
 refine bodyPost_ret (results_tmp3 rfl _ _ _) rfl ?_
 exact HZ.out
def bytR (v : Value) (l : List Int) : Res := ⟨fun w S => Ut.OwnB w v l ∧ ∀ g, v.ownBlock = some g → S g, fun h k d => ⟨h.1.kept k (fun g e => d g (h.2 g e)), h.2⟩⟩
def intR (v : Value) (l : List Int) : Res := ⟨fun w S => Dk.OwnI w v l ∧ ∀ g, v.ownBlock = some g → S g, fun h k d => ⟨h.1.kept (dkK k) (fun g e => d g (h.2 g e)), h.2⟩⟩
section
variable {W w : World} {Rs : Nat → Res} {i : Nat} {L : Loc} {x : Bm}
theorem Hs.at (h : Hs W w Rs) (j : Nat) : ∃ T, (Rs j).R w T := by
 obtain ⟨S, q, b⟩ := h.ex
 obtain ⟨T, a, c⟩ := q.at j
 exact ⟨T, a⟩
theorem Hs.bus' {f : FuncId} {args : Array Value} {E : Ending → Prop} {x' : Bm} (h : Hs W w (updR Rs i (busR L x))) (hc : ∀ S, BW w S L x → Calls Tryz.prog f args w fun e w' => E e ∧ BNx w S L x' w') : Calls Tryz.prog f args w fun e w' => E e ∧ Hs W w' (updR Rs i (busR L x')) := by
 have := h.bus i upd_self hc
 rw [upd_twice] at this
 exact this
theorem Hs.bw (h : Hs W w (updR Rs i (busR L x))) : ∃ S, BW w S L x := h.busAt upd_self
theorem rOut (h : Hs W w (updR Rs i (busR L x))) (k : x.Ok) (p s v : Int) (p0 : 0 ≤ p) (p1 : p < 65536) (v0 : 0 ≤ v) (v1 : v < 4294967296) (hw : x.wk + 16 < 9007199254740) : Calls Tryz.prog 18 #[.pointer (some ⟨L.B, 0, none⟩), .int .u16 p, .int .i64 s, .int .u32 v] w fun e w' => e = .returned (.int .i64 (erS s)) ∧ Hs W w' (updR Rs i (busR L (x.out p s v))) := h.bus' fun S b => out_ok b k p s v p0 p1 v0 v1 hw
theorem rIn (h : Hs W w (updR Rs i (busR L x))) (k : x.Ok) (p s : Int) (p0 : 0 ≤ p) (p1 : p < 65536) : Calls Tryz.prog 20 #[.pointer (some ⟨L.B, 0, none⟩), .int .u16 p, .int .i64 s] w fun e w' => e = .returned (.tuple #[.int .u32 (x.innV p s), .int .i64 (erS s)]) ∧ Hs W w' (updR Rs i (busR L (x.inn p s))) := h.bus' fun S b => in_ok b k p s p0 p1
theorem rTick (h : Hs W w (updR Rs i (busR L x))) (k : x.Ok) (n : Int) (n1 : n ≤ 9223372036854775807) : Calls Tryz.prog 21 #[.pointer (some ⟨L.B, 0, none⟩), .int .i64 n] w fun e w' => e = .returned (.tuple #[]) ∧ Hs W w' (updR Rs i (busR L (x.tickN n))) := h.bus' fun S b => tick_ok b k n n1
theorem rAck (h : Hs W w (updR Rs i (busR L x))) (k : x.Ok) : Calls Tryz.prog 22 #[.pointer (some ⟨L.B, 0, none⟩)] w fun e w' => e = .returned (.int .i64 x.p.vec) ∧ Hs W w' (updR Rs i (busR L x.ack)) := h.bus' fun S b => ack_ok b k
theorem rPend (h : Hs W w (updR Rs i (busR L x))) (k : x.Ok) : Calls Tryz.prog 11 #[.pointer (some ⟨L.B, 0, none⟩)] w fun e w' => e = .returned (.bool (x.p.a.next != -1)) ∧ Hs W w' (updR Rs i (busR L x)) := by
 obtain ⟨S, b⟩ := h.bw
 exact (pend_ok b k).mono fun e w' ⟨q, r⟩ => ⟨q, h.keep r⟩
theorem rNow (h : Hs W w (updR Rs i (busR L x))) : Calls Tryz.prog 13 #[.pointer (some ⟨L.B, 0, none⟩)] w fun e w' => e = .returned (.int .u64 x.now) ∧ w' = w := by
 obtain ⟨S, b⟩ := h.bw
 exact now_ok b
theorem rSent (h : Hs W w (updR Rs i (busR L x))) {j : Nat} (hj : Rs j = .none) (ij : i ≠ j) : Calls Tryz.prog 19 #[.pointer (some ⟨L.B, 0, none⟩)] w fun e w' => ∃ p c, e = .returned (.slice p x.u.sent.length c) ∧ Hs W w' (updR (updR Rs i (busR L { x with u := x.u.hush })) j (bytR (.slice p x.u.sent.length c) x.u.sent)) := by
 obtain ⟨S, q, b⟩ := h.ex
 obtain ⟨T, a1, a2, a3⟩ := q.split i j ij (by rw [upd_other (Ne.symm ij)]; exact hj)
 rw [upd_self] at a1
 refine (sent_ok a1).mono fun e w' ⟨p, c, e1, S', d1, d2, d3, d4⟩ => ⟨p, c, e1, ?_⟩
 obtain ⟨S2, f1, f2⟩ := a3 (busR L { x with u := x.u.hush }) (bytR (.slice p x.u.sent.length c) x.u.sent) w' (fun k => S' k ∧ k < w'.heap.size) (fun k => (Value.slice p x.u.sent.length c).ownBlock = some k) d1.lt ⟨d3, fun g e => e⟩ ⟨fun k g => d2.sub k g.1, d2.kp⟩ (fun k g => g.2) (fun k g => ⟨.inl (d4 k g).1, by obtain ⟨cur, hc⟩ := d3.lt g; exact heap_lt hc, fun f => (d4 k g).2 f.1⟩)
 rw [upd_twice] at f1
 exact .mk' h.kp b f1 f2
theorem rWritten (h : Hs W w (updR Rs i (busR L x))) {j : Nat} (hj : Rs j = .none) (ij : i ≠ j) : Calls Tryz.prog 47 #[.pointer (some ⟨L.B, 0, none⟩)] w fun e w' => ∃ p c, e = .returned (.slice p x.d.log.length c) ∧ Hs W w' (updR (updR Rs i (busR L { x with d := x.d.told })) j (intR (.slice p x.d.log.length c) x.d.log)) := by
 obtain ⟨S, q, b⟩ := h.ex
 obtain ⟨T, a1, a2, a3⟩ := q.split i j ij (by rw [upd_other (Ne.symm ij)]; exact hj)
 rw [upd_self] at a1
 refine (written_ok a1).mono fun e w' ⟨p, c, e1, S', d1, d2, d3, d4⟩ => ⟨p, c, e1, ?_⟩
 obtain ⟨S2, f1, f2⟩ := a3 (busR L { x with d := x.d.told }) (intR (.slice p x.d.log.length c) x.d.log) w' (fun k => S' k ∧ k < w'.heap.size) (fun k => (Value.slice p x.d.log.length c).ownBlock = some k) d1.lt ⟨d3, fun g e => e⟩ ⟨fun k g => d2.sub k g.1, d2.kp⟩ (fun k g => g.2) (fun k g => ⟨.inl (d4 k g).1, by obtain ⟨cur, hc⟩ := d3.lt g; exact heap_lt (w := w') hc, fun f => (d4 k g).2 f.1⟩)
 rw [upd_twice] at f1
 exact .mk' h.kp b f1 f2
theorem Hs.str {v : Value} {l : List Int} (h : Hs W w (updR Rs i (bytR v l))) : (convert 22 9 v).run Tryz.prog w = .ok (.string (strOfNums l)) w := by
 obtain ⟨T, a⟩ := h.at i
 rw [upd_self] at a
 exact a.1.str
theorem upd_comm (Rs : Nat → Res) {i j : Nat} (ij : i ≠ j) (r q : Res) : updR (updR Rs i r) j q = updR (updR Rs j q) i r := by
 funext k
 unfold updR
 by_cases a : k = j
 ·rw [if_pos a, if_pos a, if_neg (by omega)]
 ·rw [if_neg a, if_neg a]
end
section
variable (n : Nat) (D : Nat → Int) (m : Rm.Mem)
def a0 : Bm := (bm0 n D m).tell
def a1 : Bm := (a0 n D m).out 1016 1 65
def a2 : Bm := { a1 n D m with u := (a1 n D m).u.hush }
def a3 : Bm := (a2 n D m).inn 4660 2
def a4 : Bm := (a3 n D m).out 32 1 17
def a5 : Bm := (a4 n D m).out 33 1 8
def a6 : Bm := (a5 n D m).out 33 1 4
def a7 : Bm := (a6 n D m).out 33 1 1
def a8 : Bm := (a7 n D m).out 67 1 16
def a9 : Bm := (a8 n D m).out 64 1 5
def a10 : Bm := (a9 n D m).tickN 5
theorem a_sent : (a1 n D m).u.sent = [65] := by kernel_rfl
theorem a_in : (a2 n D m).innV 4660 2 = 65535 := by kernel_rfl
theorem a_no : ((a9 n D m).p.a.next != -1) = false := by kernel_rfl
theorem a_yes : ((a10 n D m).p.a.next != -1) = true := by kernel_rfl
theorem a_vec : (a10 n D m).p.vec = 8 := by kernel_rfl
theorem a_now : (a10 n D m).ack.now = 5 := by kernel_rfl
end
structure AOk (x : Bm) : Prop where
 ok : x.Ok
 wk : x.wk ≤ 1000
theorem AOk.out {x : Bm} (h : AOk x) (hw : x.wk + 16 ≤ 1000) (p s v : Int) : AOk (x.out p s v) := ⟨h.ok.out p s v, by have := out_wk h.ok p s v; omega⟩
set_option maxHeartbeats 2000000 in
theorem awake_ok (w : World) : Calls Tryz.prog 4 #[] w fun e w' => e = .returned (.bool true) ∧ Kp noB w w' := by
 have HD : Hid _ := Dk.lDisk_any w 1 0 (by decide) (by decide) ⟨by decide, by decide⟩
 have e1 : Dk.secN 1 = 1 := by kernel_rfl
 rw [e1] at HD
 have HB : Hid (∀ W, Dk.RowB W w.heap.size 512 (Dk.dskS 0) → _) := fun W r => both_ok W 1 (by decide) (by decide) (some ⟨w.heap.size, 0, none⟩) 512 512 (Dk.dskS 0) r.at (fun j _ => Dk.dskS_byt 0 j) (by decide) (by decide)
 have okd : (Dk.id0 (512 / 512) (Dk.dB 512 (Dk.dskS 0))).Ok := Dk.idN_ok (by decide) (fun j _ => Dk.dskS_byt 0 j)
 have k0 : (a0 (512 / 512) (Dk.dB 512 (Dk.dskS 0)) (Rm.mem0 1)).Ok := (bm0_ok okd).tell
 have w0 : (a0 (512 / 512) (Dk.dB 512 (Dk.dskS 0)) (Rm.mem0 1)).wk = 0 := rfl
 unfold BothP at HB
 rw [show (bm0 (512 / 512) (Dk.dB 512 (Dk.dskS 0)) (Rm.mem0 1)).tell = a0 (512 / 512) (Dk.dB 512 (Dk.dskS 0)) (Rm.mem0 1) from rfl] at HB
 clear okd
 generalize (512 / 512 : Nat) = n at *
 generalize Dk.dB 512 (Dk.dskS 0) = D at *
 generalize Rm.mem0 1 = m at *
 have A0 : AOk (a0 n D m) := ⟨k0, by omega⟩
 have A1 : AOk (a1 n D m) := A0.out (by omega) _ _ _
 have b1 : (a1 n D m).wk ≤ 16 := by have := out_wk k0 1016 1 65; show (Bm.out _ _ _ _).wk ≤ 16; omega
 have k2 : (a2 n D m).Ok := { A1.ok with u := A1.ok.u.hush }
 have b2 : (a2 n D m).wk ≤ 16 := by
  show ([] : List Int).length + _ ≤ 16
  have : (a1 n D m).u.sent.length + (a1 n D m).d.work ≤ 16 := b1
  show 0 + (a1 n D m).d.work ≤ 16
  omega
 have k3 : (a3 n D m).Ok := k2.inn _ _
 have b3 : (a3 n D m).wk ≤ 16 := Nat.le_trans (inn_wk _ _ _) b2
 have k4 : (a4 n D m).Ok := k3.out _ _ _
 have b4 : (a4 n D m).wk ≤ 32 := by have := out_wk k3 32 1 17; show (Bm.out _ _ _ _).wk ≤ 32; omega
 have k5 : (a5 n D m).Ok := k4.out _ _ _
 have b5 : (a5 n D m).wk ≤ 48 := by have := out_wk k4 33 1 8; show (Bm.out _ _ _ _).wk ≤ 48; omega
 have k6 : (a6 n D m).Ok := k5.out _ _ _
 have b6 : (a6 n D m).wk ≤ 64 := by have := out_wk k5 33 1 4; show (Bm.out _ _ _ _).wk ≤ 64; omega
 have k7 : (a7 n D m).Ok := k6.out _ _ _
 have b7 : (a7 n D m).wk ≤ 80 := by have := out_wk k6 33 1 1; show (Bm.out _ _ _ _).wk ≤ 80; omega
 have k8 : (a8 n D m).Ok := k7.out _ _ _
 have b8 : (a8 n D m).wk ≤ 96 := by have := out_wk k7 67 1 16; show (Bm.out _ _ _ _).wk ≤ 96; omega
 have k9 : (a9 n D m).Ok := k8.out _ _ _
 have k10 : (a10 n D m).Ok := k9.tickN _
 have er1 : erS 1 = 0 := rfl
 have er2 : erS 2 = 0 := rfl
 have H1 : Hid (∀ w1 W L Rs, Hs w1 W (updR Rs 0 (busR L (a0 n D m))) → Calls Tryz.prog 18 #[.pointer (some ⟨L.B, 0, none⟩), .int .u16 1016, .int .i64 1, .int .u32 65] W fun e w' => e = .returned (.int .i64 0) ∧ Hs w1 w' (updR Rs 0 (busR L (a1 n D m)))) := fun w1 W L Rs h => rOut h k0 1016 1 65 (by decide) (by decide) (by decide) (by decide) (by omega)
 have H4 : Hid (∀ w1 W L Rs, Hs w1 W (updR Rs 0 (busR L (a3 n D m))) → Calls Tryz.prog 18 #[.pointer (some ⟨L.B, 0, none⟩), .int .u16 32, .int .i64 1, .int .u32 17] W fun e w' => e = .returned (.int .i64 0) ∧ Hs w1 w' (updR Rs 0 (busR L (a4 n D m)))) := fun w1 W L Rs h => rOut h k3 32 1 17 (by decide) (by decide) (by decide) (by decide) (by omega)
 have H5 : Hid (∀ w1 W L Rs, Hs w1 W (updR Rs 0 (busR L (a4 n D m))) → Calls Tryz.prog 18 #[.pointer (some ⟨L.B, 0, none⟩), .int .u16 33, .int .i64 1, .int .u32 8] W fun e w' => e = .returned (.int .i64 0) ∧ Hs w1 w' (updR Rs 0 (busR L (a5 n D m)))) := fun w1 W L Rs h => rOut h k4 33 1 8 (by decide) (by decide) (by decide) (by decide) (by omega)
 have H6 : Hid (∀ w1 W L Rs, Hs w1 W (updR Rs 0 (busR L (a5 n D m))) → Calls Tryz.prog 18 #[.pointer (some ⟨L.B, 0, none⟩), .int .u16 33, .int .i64 1, .int .u32 4] W fun e w' => e = .returned (.int .i64 0) ∧ Hs w1 w' (updR Rs 0 (busR L (a6 n D m)))) := fun w1 W L Rs h => rOut h k5 33 1 4 (by decide) (by decide) (by decide) (by decide) (by omega)
 have H7 : Hid (∀ w1 W L Rs, Hs w1 W (updR Rs 0 (busR L (a6 n D m))) → Calls Tryz.prog 18 #[.pointer (some ⟨L.B, 0, none⟩), .int .u16 33, .int .i64 1, .int .u32 1] W fun e w' => e = .returned (.int .i64 0) ∧ Hs w1 w' (updR Rs 0 (busR L (a7 n D m)))) := fun w1 W L Rs h => rOut h k6 33 1 1 (by decide) (by decide) (by decide) (by decide) (by omega)
 have H8 : Hid (∀ w1 W L Rs, Hs w1 W (updR Rs 0 (busR L (a7 n D m))) → Calls Tryz.prog 18 #[.pointer (some ⟨L.B, 0, none⟩), .int .u16 67, .int .i64 1, .int .u32 16] W fun e w' => e = .returned (.int .i64 0) ∧ Hs w1 w' (updR Rs 0 (busR L (a8 n D m)))) := fun w1 W L Rs h => rOut h k7 67 1 16 (by decide) (by decide) (by decide) (by decide) (by omega)
 have H9 : Hid (∀ w1 W L Rs, Hs w1 W (updR Rs 0 (busR L (a8 n D m))) → Calls Tryz.prog 18 #[.pointer (some ⟨L.B, 0, none⟩), .int .u16 64, .int .i64 1, .int .u32 5] W fun e w' => e = .returned (.int .i64 0) ∧ Hs w1 w' (updR Rs 0 (busR L (a9 n D m)))) := fun w1 W L Rs h => rOut h k8 64 1 5 (by decide) (by decide) (by decide) (by decide) (by omega)
 have HS : Hid (∀ w1 W L Rs, Rs 2 = Res.none → Hs w1 W (updR Rs 0 (busR L (a1 n D m))) → Calls Tryz.prog 19 #[.pointer (some ⟨L.B, 0, none⟩)] W fun e w' => ∃ p c, e = .returned (.slice p 1 c) ∧ Hs w1 w' (updR (updR Rs 2 (bytR (.slice p 1 c) [65])) 0 (busR L (a2 n D m)))) := fun w1 W L Rs hr h => by
  have := rSent h (j := 2) hr (by decide)
  rw [a_sent] at this
  exact this.mono fun e w' ⟨p, c, q, r⟩ => ⟨p, c, q, by rw [upd_comm _ (by decide)] at r; exact r⟩
 have HI : Hid (∀ w1 W L Rs, Hs w1 W (updR Rs 0 (busR L (a2 n D m))) → Calls Tryz.prog 20 #[.pointer (some ⟨L.B, 0, none⟩), .int .u16 4660, .int .i64 2] W fun e w' => e = .returned (.tuple #[.int .u32 65535, .int .i64 0]) ∧ Hs w1 w' (updR Rs 0 (busR L (a3 n D m)))) := fun w1 W L Rs h => by
  have := rIn h k2 4660 2 (by decide) (by decide)
  rw [a_in] at this
  exact this
 have HP : Hid (∀ w1 W L Rs, Hs w1 W (updR Rs 0 (busR L (a9 n D m))) → Calls Tryz.prog 11 #[.pointer (some ⟨L.B, 0, none⟩)] W fun e w' => e = .returned (.bool false) ∧ Hs w1 w' (updR Rs 0 (busR L (a9 n D m)))) := fun w1 W L Rs h => by
  have := rPend h k9
  rw [a_no] at this
  exact this
 have HT : Hid (∀ w1 W L Rs, Hs w1 W (updR Rs 0 (busR L (a9 n D m))) → Calls Tryz.prog 21 #[.pointer (some ⟨L.B, 0, none⟩), .int .i64 5] W fun e w' => e = .returned (.tuple #[]) ∧ Hs w1 w' (updR Rs 0 (busR L (a10 n D m)))) := fun w1 W L Rs h => rTick h k9 5 (by decide)
 have HQ : Hid (∀ w1 W L Rs, Hs w1 W (updR Rs 0 (busR L (a10 n D m))) → Calls Tryz.prog 11 #[.pointer (some ⟨L.B, 0, none⟩)] W fun e w' => e = .returned (.bool true) ∧ Hs w1 w' (updR Rs 0 (busR L (a10 n D m)))) := fun w1 W L Rs h => by
  have := rPend h k10
  rw [a_yes] at this
  exact this
 have HK : Hid (∀ w1 W L Rs, Hs w1 W (updR Rs 0 (busR L (a10 n D m))) → Calls Tryz.prog 22 #[.pointer (some ⟨L.B, 0, none⟩)] W fun e w' => e = .returned (.int .i64 8) ∧ Hs w1 w' (updR Rs 0 (busR L (a10 n D m).ack))) := fun w1 W L Rs h => by
  have := rAck h k10
  rw [a_vec] at this
  exact this
 have HW : Hid (∀ w1 W L Rs, Hs w1 W (updR Rs 0 (busR L (a10 n D m).ack)) → Calls Tryz.prog 13 #[.pointer (some ⟨L.B, 0, none⟩)] W fun e w' => e = .returned (.int .u64 5) ∧ w' = W) := fun w1 W L Rs h => by
  have := rNow h
  rw [a_now] at this
  exact this
 clear k0 w0 A0 A1 b1 k2 b2 k3 b3 k4 b4 k5 b5 k6 b6 k7 b7 k8 b8 k9 k10 er1 er2 e1
 go_enter Tryz.func4, Tryz.ntmps4
 go_wp2_with fail
 refine Calls.mono HD.out ?_; rintro e w1 ⟨rfl, r1, q1⟩
 have Q1 : Hid (Kp noB w w1) := kDk q1
 have HB1 : Hid _ := HB.out _ r1
 clear r1 q1 HD HB
 go_wp2_with fail
 refine Calls.mono HB1.out ?_; rintro e w2 ⟨L, L', rfl, p2⟩
 have P2 : Hid (Hs w1 w2 (updR (two .none (docR L' (a0 n D m))) 0 (busR L (a0 n D m)))) := by rw [two_0]; exact p2
 clear p2 HB1
 have hR2 : Hid ((two .none (docR L' (a0 n D m))) 2 = Res.none) := rfl
 generalize two .none (docR L' (a0 n D m)) = Rs at *
 go_wp2_with fail
 refine Calls.mono (H1.out _ _ _ _ P2.out) ?_; rintro e w3 ⟨rfl, p3⟩
 have P3 : Hid _ := p3
 clear p3 P2 H1
 go_wp2_with fail
 refine Calls.mono (HS.out _ _ _ _ hR2.out P3.out) ?_; rintro e w4 ⟨p, c, rfl, p4⟩
 have P4 : Hid _ := p4
 clear p4 P3 HS hR2
 go_wp2_with fail
 refine Calls.mono (HI.out _ _ _ _ P4.out) ?_; rintro e w5 ⟨rfl, p5⟩
 have P5 : Hid _ := p5
 clear p5 P4 HI
 go_wp2_with fail
 refine Calls.mono (H4.out _ _ _ _ P5.out) ?_; rintro e w6 ⟨rfl, p6⟩
 have P6 : Hid _ := p6
 clear p6 P5 H4
 go_wp2_with fail
 refine Calls.mono (H5.out _ _ _ _ P6.out) ?_; rintro e w7 ⟨rfl, p7⟩
 have P7 : Hid _ := p7
 clear p7 P6 H5
 go_wp2_with fail
 refine Calls.mono (H6.out _ _ _ _ P7.out) ?_; rintro e w8 ⟨rfl, p8⟩
 have P8 : Hid _ := p8
 clear p8 P7 H6
 go_wp2_with fail
 refine Calls.mono (H7.out _ _ _ _ P8.out) ?_; rintro e w9 ⟨rfl, p9⟩
 have P9 : Hid _ := p9
 clear p9 P8 H7
 go_wp2_with fail
 refine Calls.mono (H8.out _ _ _ _ P9.out) ?_; rintro e w10 ⟨rfl, p10⟩
 have P10 : Hid _ := p10
 clear p10 P9 H8
 go_wp2_with fail
 refine Calls.mono (H9.out _ _ _ _ P10.out) ?_; rintro e w11 ⟨rfl, p11⟩
 have P11 : Hid _ := p11
 clear p11 P10 H9
 go_wp2_with fail
 refine Calls.mono (HP.out _ _ _ _ P11.out) ?_; rintro e w12 ⟨rfl, p12⟩
 have P12 : Hid _ := p12
 clear p12 P11 HP
 go_wp2_with fail
 refine Calls.mono (HT.out _ _ _ _ P12.out) ?_; rintro e w13 ⟨rfl, p13⟩
 have P13 : Hid _ := p13
 clear p13 P12 HT
 have hs := (show Hs w1 w13 (updR (updR Rs 0 (busR L (a10 n D m))) 2 (bytR (.slice p 1 c) [65])) by rw [upd_comm _ (by decide)]; exact P13.out).str
 rw [show strOfNums [65] = ⟨#[65]⟩ from rfl] at hs
 go_wp2_with fail
 refine Calls.mono (HQ.out _ _ _ _ P13.out) ?_; rintro e w14 ⟨rfl, p14⟩
 have P14 : Hid _ := p14
 clear p14 P13 HQ hs
 go_wp2_with fail
 refine Calls.mono (HK.out _ _ _ _ P14.out) ?_; rintro e w15 ⟨rfl, p15⟩
 have P15 : Hid _ := p15
 clear p15 P14 HK
 go_wp2_with fail
 refine Calls.mono (HW.out _ _ _ _ P15.out) ?_; rintro e w16 ⟨rfl, hz⟩; replace hz := hz.symm; subst hz
 have HZ : Hid (Kp noB w w15) := Q1.out.trans P15.out.kp
 clear P15 HW Q1
 go_wp2
 go_ret
 exact ⟨rfl, HZ.out⟩
end Go.Proofs.YtonfjhbfkichkaaGreat.Bs
