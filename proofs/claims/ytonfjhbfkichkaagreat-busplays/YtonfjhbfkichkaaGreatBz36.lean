/- The bus and its devices: BsPort, BsByte. -/
import Derived.Test.YtonfjhbfkichkaaGreatBz04
namespace Go.Proofs.YtonfjhbfkichkaaGreat.Bs
open Go.ChangeShapes Go.WideShapes Go.ChangeAt Go.RowKit
open Go.Proofs.YtonfjhbfkichkaaGreat.Ut (Kp heap_lt heap_kept heap_set heap_new noB isB kpB)
set_option linter.unusedVariables false
set_option maxRecDepth 20000
section
variable {w : World} {S : Nat → Prop} {L : Loc} {x : Bm}
theorem outTimer_ok (h : BW w S L x) (k : x.Ok) (a v : Int) (a0 : 0 ≤ a) (a1 : a < 4) (hv : Byt v) : Calls Tryz.prog 62 #[.pointer (some ⟨L.B, 0, none⟩), .int .i64 a, .int .u8 v] w fun e w' => e = .returned (.int .i64 0) ∧ BNx w S L { x with f := Pt.outF x.f a v x.now } w' := by
 have HA : Hid (∀ W S, BW W S L x → Calls Tryz.prog 110 #[.pointer (some ⟨L.T, 0, none⟩), .int .i64 a, .int .u8 v, .int .u64 x.now] W fun e w' => e = .returned (.int .i64 0) ∧ BNx W S L { x with f := Pt.outF x.f a v x.now } w') := fun W S h => bPit h (fun q => Pt.out_ok q k.f a v x.now a0 a1 hv.1 hv.2)
 have CA : Hid (∀ W S f, BW W S L { x with f := f } → W.cell? ⟨L.B, 1, none⟩ = some (.pointer (some ⟨L.T, 0, none⟩)) ∧ W.cell? ⟨L.B, 6, none⟩ = some (.int .u64 x.now)) := fun W S m h => ⟨h.c1, h.c6⟩
 have P0 : Hid (BW w.drew S L x) := h.drew
 have N0 : Hid (Nx w S w.drew S) := Nx.keep (Kp.refl _ _).drew
 have S0 : Hid _ := CA.out _ _ _ P0.out
 generalize Pt.outF x.f a v x.now = f' at *
 clear h k hv
 go_enter Tryz.func62, Tryz.ntmps62
 go_wp2
 go_region_held3 (fun W => W.cell? ⟨L.B, 1, none⟩ = some (.pointer (some ⟨L.T, 0, none⟩)) ∧ W.cell? ⟨L.B, 6, none⟩ = some (.int .u64 x.now))
  (first | exact S0.out | exact CA.out _ _ _ (by assumption) | assumption)
  (first | (go_at_call 110; refine Calls.mono (HA.out _ _ P0.out) ?_; rintro e z1 ⟨rfl, S1, p1, n1⟩))
 have HZ : Hid (BNx w S L { x with f := f' } z1) := ⟨S1, p1, N0.out.trans n1⟩
 clear p1 n1 S0 P0 N0 HA CA
 go_wp2
 go_ret
 exact ⟨rfl, HZ.out⟩
theorem inTimer_ok (h : BW w S L x) (k : x.Ok) (a : Int) (a0 : 0 ≤ a) (a1 : a < 4) : Calls Tryz.prog 63 #[.pointer (some ⟨L.B, 0, none⟩), .int .i64 a] w fun e w' => e = .returned (.tuple #[.int .u8 (Pt.innV x.f a x.now), .int .i64 0]) ∧ BNx w S L { x with f := Pt.innF x.f a } w' := by
 have HA : Hid (∀ W S, BW W S L x → Calls Tryz.prog 111 #[.pointer (some ⟨L.T, 0, none⟩), .int .i64 a, .int .u64 x.now] W fun e w' => e = .returned (.tuple #[.int .u8 (Pt.innV x.f a x.now), .int .i64 0]) ∧ BNx W S L { x with f := Pt.innF x.f a } w') := fun W S h => bPit h (fun q => Pt.in_ok q k.f a x.now a0 a1)
 have CA : Hid (∀ W S f, BW W S L { x with f := f } → W.cell? ⟨L.B, 1, none⟩ = some (.pointer (some ⟨L.T, 0, none⟩)) ∧ W.cell? ⟨L.B, 6, none⟩ = some (.int .u64 x.now)) := fun W S m h => ⟨h.c1, h.c6⟩
 have P0 : Hid (BW w.drew S L x) := h.drew
 have N0 : Hid (Nx w S w.drew S) := Nx.keep (Kp.refl _ _).drew
 have S0 : Hid _ := CA.out _ _ _ P0.out
 generalize Pt.innF x.f a = f' at *
 generalize Pt.innV x.f a x.now = y at *
 clear h k
 go_enter Tryz.func63, Tryz.ntmps63
 go_wp2
 go_region_held3 (fun W => W.cell? ⟨L.B, 1, none⟩ = some (.pointer (some ⟨L.T, 0, none⟩)) ∧ W.cell? ⟨L.B, 6, none⟩ = some (.int .u64 x.now))
  (first | exact S0.out | exact CA.out _ _ _ (by assumption) | assumption)
  (first | (go_at_call 111; refine Calls.mono (HA.out _ _ P0.out) ?_; rintro e z1 ⟨rfl, S1, p1, n1⟩))
 have HZ : Hid (BNx w S L { x with f := f' } z1) := ⟨S1, p1, N0.out.trans n1⟩
 clear p1 n1 S0 P0 N0 HA CA
 go_wp2
 go_ret2
 exact ⟨rfl, HZ.out⟩
theorem outDisk_ok (h : BW w S L x) (k : x.Ok) (a v : Int) (hv : Byt v) (hw : x.wk + 4 < 9007199254740992) : Calls Tryz.prog 66 #[.pointer (some ⟨L.B, 0, none⟩), .int .i64 a, .int .u8 v] w fun e w' => e = .returned (.int .i64 (Dk.ck a 1)) ∧ BNx w S L { x with d := x.d.o a 1 v } w' := by
 have v0 := hv.1
 have v1 := hv.2
 have HA : Hid (∀ W S, BW W S L x → Calls Tryz.prog 52 #[.pointer (some ⟨L.I, 0, none⟩), .int .i64 a, .int .i64 1, .int .u32 v] W fun e w' => e = .returned (.int .i64 (Dk.ck a 1)) ∧ BNx W S L { x with d := x.d.o a 1 v } w') := fun W S h => bIde h (fun T q => Dk.wOut q k.d a 1 v v0 (by omega) (by unfold Bm.wk at hw; omega))
 have P0 : Hid (BW w S L x) := h
 have c3 := h.c3
 generalize x.d.o a 1 v = d' at *
 generalize Dk.ck a 1 = y at *
 clear h k hv hw
 go_enter Tryz.func66, Tryz.ntmps66
 go_wp2_with fail
 refine Calls.mono (HA.out _ _ P0.out) ?_; rintro e z1 ⟨rfl, hz⟩
 have HZ : Hid _ := hz
 clear hz c3 P0 HA
 go_wp2
 go_ret
 exact ⟨rfl, HZ.out⟩
theorem inDisk_ok (h : BW w S L x) (k : x.Ok) (a : Int) (hy : 0 ≤ x.d.iV a 1) : Calls Tryz.prog 67 #[.pointer (some ⟨L.B, 0, none⟩), .int .i64 a] w fun e w' => e = .returned (.tuple #[.int .u8 (x.d.iV a 1 % 256), .int .i64 (Dk.ck a 1)]) ∧ BNx w S L { x with d := x.d.i a 1 } w' := by
 have HA : Hid (∀ W S, BW W S L x → Calls Tryz.prog 55 #[.pointer (some ⟨L.I, 0, none⟩), .int .i64 a, .int .i64 1] W fun e w' => e = .returned (.tuple #[.int .u32 (x.d.iV a 1), .int .i64 (Dk.ck a 1)]) ∧ BNx W S L { x with d := x.d.i a 1 } w') := fun W S h => bIde h (fun T q => Dk.wIn q k.d a 1)
 have P0 : Hid (BW w S L x) := h
 have c3 := h.c3
 generalize x.d.i a 1 = d' at *
 generalize Dk.ck a 1 = y at *
 generalize x.d.iV a 1 = z at *
 clear h k
 go_enter Tryz.func67, Tryz.ntmps67
 go_wp2_with fail
 refine Calls.mono (HA.out _ _ P0.out) ?_; rintro e z1 ⟨rfl, hz⟩
 have HZ : Hid _ := hz
 clear hz c3 P0 HA
 go_wp2
 go_ret2
 exact ⟨rfl, HZ.out⟩
theorem and2_u8 : ∀ n : Fin 256, bits .and .u8 (n.val : Int) 2 = 2 * ((n.val : Int) / 2 % 2) := by decide +kernel
theorem and2 {v : Int} (hv : Byt v) : bits .and .u8 v 2 = 2 * (v / 2 % 2) := by
 obtain ⟨n, rfl⟩ : ∃ n : Nat, v = n := ⟨v.toNat, by have := hv.1; omega⟩
 exact and2_u8 ⟨n, by have := hv.2; omega⟩
theorem shut_and {v : Int} (hv : Byt v) : (bits .and .u8 v 2 == 0) = shutV v := by
 rw [and2 hv]
 unfold shutV
 rw [Bool.eq_iff_iff, beq_iff_eq, beq_iff_eq]
 omega
theorem outGate_ok (h : BW w S L x) (a v : Int) (hv : Byt v) : Calls Tryz.prog 68 #[.pointer (some ⟨L.B, 0, none⟩), .int .i64 a, .int .u8 v] w fun e w' => e = .returned (.int .i64 0) ∧ BNx w S L { x with cl := shutV v, m := { x.m with closed := shutV v } } w' := by
 have eb := shut_and hv
 generalize shutV v = b at *
 have c5 := h.c5
 have f5 := h.fz 5
 obtain ⟨S1, p1, n1⟩ : BNx w S L { x with cl := b } (w.setCell ⟨L.B, 5, none⟩ (.bool b)) := bSet h b x.now rfl
 have HA : Hid (∀ W S, BW W S L { x with cl := b } → Calls Tryz.prog 28 #[.pointer (some ⟨L.M + 3, 0, none⟩), .bool (!b)] W fun e w' => e = .returned (.tuple #[]) ∧ BNx W S L { x with cl := b, m := { x.m with closed := b } } w') := fun W S h => bRam (x := { x with cl := b }) (m := { x.m with closed := b }) h rfl (fun q => by
  have := Rm.gate_ok W L.M x.m q (!b)
  rw [Bool.not_not] at this
  exact this)
 have CA : Hid (∀ W S m, BW W S L { x with cl := b, m := m } → W.cell? ⟨L.B, 4, none⟩ = some (.pointer (some ⟨L.M + 3, 0, none⟩)) ∧ W.cell? ⟨L.B, 5, none⟩ = some (.bool b)) := fun W S m h => ⟨h.c4, h.c5⟩
 have P0 : Hid (BW (w.setCell ⟨L.B, 5, none⟩ (.bool b)).drew S1 L { x with cl := b }) := p1.drew
 have N0 : Hid (Nx w S (w.setCell ⟨L.B, 5, none⟩ (.bool b)).drew S1) := n1.trans (Nx.keep (Kp.refl _ _).drew)
 have S0 : Hid _ := CA.out _ _ _ P0.out
 clear h p1 n1 hv
 go_enter Tryz.func68, Tryz.ntmps68
 go_wp2
 go_region_held3 (fun W => W.cell? ⟨L.B, 4, none⟩ = some (.pointer (some ⟨L.M + 3, 0, none⟩)) ∧ W.cell? ⟨L.B, 5, none⟩ = some (.bool b))
  (first | exact S0.out | exact CA.out _ _ _ (by assumption) | assumption)
  (first | (go_at_call 28; refine Calls.mono (HA.out _ _ P0.out) ?_; rintro e z1 ⟨rfl, S2, p2, n2⟩))
 have HZ : Hid (BNx w S L { x with cl := b, m := { x.m with closed := b } } z1) := ⟨S2, p2, N0.out.trans n2⟩
 clear p2 n2 S0 P0 N0 HA CA
 go_wp2
 go_ret
 exact ⟨rfl, HZ.out⟩
theorem inGate_ok (h : BW w S L x) (a : Int) : Calls Tryz.prog 69 #[.pointer (some ⟨L.B, 0, none⟩), .int .i64 a] w fun e w' => e = .returned (.tuple #[.int .u8 (gateV x.cl), .int .i64 0]) ∧ w' = w := by
 have c5 := h.c5
 unfold gateV
 clear h
 cases hc : x.cl <;> rw [hc] at c5
 all_goals
  go_enter Tryz.func69, Tryz.ntmps69
  go_wp2
  go_ret2
  exact ⟨rfl, rfl⟩
end
theorem pic_bd {m : Pc.M2} (k : m.Ok) (a : Int) : Byt (m.inn a) := by
 unfold Pc.M2.inn Pc.Ch.shown
 repeat' split
 ·exact k.a.srv
 ·exact k.a.asks
 ·exact k.a.msk
 ·exact k.b.srv
 ·exact k.b.asks
 ·exact k.b.msk
theorem pit_bd {f : Nat → Pt.Cn} (k : Pt.Oks f) (a now : Int) : Byt (Pt.innV f a now) := by
 unfold Pt.innV
 split
 ·exact ⟨by decide, by decide⟩
 ·exact Pt.Cn.told_bd (k _) now
theorem uart_bd {u : Ut.U} (k : u.Ok) (a : Int) : Byt (u.inV a) := by
 have why : u.why = 1 ∨ u.why = 2 ∨ u.why = 4 := by
  unfold Ut.U.why
  repeat' split
  ·exact .inr (.inr rfl)
  ·exact .inr (.inl rfl)
  ·exact .inl rfl
 unfold Ut.U.inV
 repeat' split
 ·exact k.d0
 ·unfold Ut.U.first
  cases h : u.came with
  | nil => exact ⟨by decide, by decide⟩
  | cons b l => exact k.came b (by rw [h]; exact .head _)
 ·exact k.d1
 ·exact ⟨k.want.1, by have := k.want.2; omega⟩
 ·unfold Ut.U.told
  split <;> exact ⟨by omega, by omega⟩
 ·exact k.line
 ·exact k.modem
 ·unfold Ut.U.status
  repeat' split
  all_goals exact ⟨by omega, by omega⟩
 ·exact ⟨by decide, by decide⟩
 ·exact k.jot
theorem ide_nn {d : Dk.Id} (k : d.Ok) (a : Int) : 0 ≤ d.iV a 1 := by
 unfold Dk.Id.iV
 split
 ·have g : 0 ≤ d.getsV 1 := by
   have := k.getV.1
   show 0 ≤ 0 + d.getV * 2 ^ (8 * 0)
   simpa using this
  unfold Dk.Id.inV Dk.Id.status
  repeat' split
  ·decide
  ·exact g
  ·exact k.r1.1
  ·exact k.r2.1
  ·exact k.r3.1
  ·exact k.r4.1
  ·exact k.r5.1
  ·exact k.r6.1
  all_goals decide
 ·decide
theorem inV1_byt {x : Bm} (k : x.Ok) (o : Option (Dv × Int)) : Byt (x.inDV o) := by
 unfold Bm.inDV
 split
 ·exact pic_bd k.p _
 ·exact pit_bd k.f _ _
 ·exact uart_bd k.u _
 ·exact ⟨by omega, by omega⟩
 ·unfold gateV
  split <;> exact ⟨by decide, by decide⟩
 ·exact ⟨by decide, by decide⟩
theorem port_bd {p a : Int} {v : Dv} (h : portOf p = some (v, a)) : match v with | .pic => 0 ≤ a ∧ a < 4 | .pit => 0 ≤ a ∧ a < 4 | .uart => 0 ≤ a ∧ a < 8 | .ide => 0 ≤ a ∧ a < 9 | .gate => a = 0 := by
 unfold portOf at h
 repeat' split at h
 all_goals first
  | (injection h with h; injection h with h1 h2; subst h1; subst h2; dsimp only; omega)
  | (injection h with h; injection h with h1 h2; subst h1; subst h2; rfl)
  | cases h
section
variable {w : World} {S : Nat → Prop} {L : Loc} {x : Bm}
theorem pic_out (h : BW w S L x) (k : x.Ok) {a v : Int} (ha : 0 ≤ a ∧ a < 4) (hv : Byt v) : Calls Tryz.prog 60 #[.pointer (some ⟨L.P, 0, none⟩), .int .i64 a, .int .u8 v] w fun e w' => (∃ y, e = .returned (.int .i64 y)) ∧ BNx w S L (x.outD v (some (.pic, a))) w' :=
 (bPic h (fun q => Pc.out_ok w L.P x.p q k.p a v ha.1 ha.2 hv)).mono fun e w' ⟨q, r⟩ => ⟨⟨_, q⟩, r⟩
theorem pit_out (h : BW w S L x) (k : x.Ok) {a v : Int} (ha : 0 ≤ a ∧ a < 4) (hv : Byt v) : Calls Tryz.prog 62 #[.pointer (some ⟨L.B, 0, none⟩), .int .i64 a, .int .u8 v] w fun e w' => (∃ y, e = .returned (.int .i64 y)) ∧ BNx w S L (x.outD v (some (.pit, a))) w' :=
 (outTimer_ok h k a v ha.1 ha.2 hv).mono fun e w' ⟨q, r⟩ => ⟨⟨_, q⟩, r⟩
theorem uart_out (h : BW w S L x) (k : x.Ok) {a v : Int} (ha : 0 ≤ a ∧ a < 8) (hv : Byt v) (hw : x.wk + 4 < 9007199254740) : Calls Tryz.prog 64 #[.pointer (some ⟨L.U, 0, none⟩), .int .i64 a, .int .u8 v] w fun e w' => (∃ y, e = .returned (.int .i64 y)) ∧ BNx w S L (x.outD v (some (.uart, a))) w' := by
 refine (bUart (E := fun e => e = .returned (.int .i64 0)) (m := x.u.out a v) h (fun T q => ?_)).mono fun e w' ⟨q, r⟩ => ⟨⟨0, q⟩, r⟩
 have := Ut.wOut q k.u a v hv (by unfold Bm.wk at hw; omega)
 rwa [if_pos (show 0 ≤ a ∧ a < 8 from ha), if_pos (show 0 ≤ a ∧ a < 8 from ha)] at this
theorem ide_out (h : BW w S L x) (k : x.Ok) {a v : Int} (hv : Byt v) (hw : x.wk + 4 < 9007199254740) : Calls Tryz.prog 66 #[.pointer (some ⟨L.B, 0, none⟩), .int .i64 a, .int .u8 v] w fun e w' => (∃ y, e = .returned (.int .i64 y)) ∧ BNx w S L (x.outD v (some (.ide, a))) w' :=
 (outDisk_ok h k a v hv (by omega)).mono fun e w' ⟨q, r⟩ => ⟨⟨_, q⟩, r⟩
theorem gate_out (h : BW w S L x) {a v : Int} (hv : Byt v) : Calls Tryz.prog 68 #[.pointer (some ⟨L.B, 0, none⟩), .int .i64 a, .int .u8 v] w fun e w' => (∃ y, e = .returned (.int .i64 y)) ∧ BNx w S L (x.outD v (some (.gate, a))) w' :=
 (outGate_ok h a v hv).mono fun e w' ⟨q, r⟩ => ⟨⟨_, q⟩, r⟩
theorem pic_in (h : BW w S L x) (k : x.Ok) {a : Int} (ha : 0 ≤ a ∧ a < 4) : Calls Tryz.prog 61 #[.pointer (some ⟨L.P, 0, none⟩), .int .i64 a] w fun e w' => (∃ y, e = .returned (.tuple #[.int .u8 (x.inDV (some (.pic, a))), .int .i64 y])) ∧ BNx w S L (x.inD (some (.pic, a))) w' := by
 refine (bPic (E := fun e => e = .returned (.tuple #[.int .u8 (x.p.inn a), .int .i64 0])) (m := x.p) h (fun q => ?_)).mono fun e w' ⟨q, r⟩ => ⟨⟨0, q⟩, r⟩
 have := Pc.in_ok w L.P x.p q k.p a ha.1 ha.2
 rwa [k.st] at this
theorem pit_in (h : BW w S L x) (k : x.Ok) {a : Int} (ha : 0 ≤ a ∧ a < 4) : Calls Tryz.prog 63 #[.pointer (some ⟨L.B, 0, none⟩), .int .i64 a] w fun e w' => (∃ y, e = .returned (.tuple #[.int .u8 (x.inDV (some (.pit, a))), .int .i64 y])) ∧ BNx w S L (x.inD (some (.pit, a))) w' :=
 (inTimer_ok h k a ha.1 ha.2).mono fun e w' ⟨q, r⟩ => ⟨⟨_, q⟩, r⟩
theorem uart_in (h : BW w S L x) (k : x.Ok) {a : Int} (ha : 0 ≤ a ∧ a < 8) : Calls Tryz.prog 65 #[.pointer (some ⟨L.U, 0, none⟩), .int .i64 a] w fun e w' => (∃ y, e = .returned (.tuple #[.int .u8 (x.inDV (some (.uart, a))), .int .i64 y])) ∧ BNx w S L (x.inD (some (.uart, a))) w' := by
 refine (bUart (E := fun e => e = .returned (.tuple #[.int .u8 (x.u.inV a), .int .i64 0])) (m := x.u.inn a) h (fun T q => ?_)).mono fun e w' ⟨q, r⟩ => ⟨⟨0, q⟩, r⟩
 have := Ut.wIn q k.u a
 rwa [if_pos (show 0 ≤ a ∧ a < 8 from ha), if_pos (show 0 ≤ a ∧ a < 8 from ha), if_pos (show 0 ≤ a ∧ a < 8 from ha)] at this
theorem ide_in (h : BW w S L x) (k : x.Ok) {a : Int} : Calls Tryz.prog 67 #[.pointer (some ⟨L.B, 0, none⟩), .int .i64 a] w fun e w' => (∃ y, e = .returned (.tuple #[.int .u8 (x.inDV (some (.ide, a))), .int .i64 y])) ∧ BNx w S L (x.inD (some (.ide, a))) w' :=
 (inDisk_ok h k a (ide_nn k.d a)).mono fun e w' ⟨q, r⟩ => ⟨⟨_, q⟩, r⟩
theorem gate_in (h : BW w S L x) {a : Int} : Calls Tryz.prog 69 #[.pointer (some ⟨L.B, 0, none⟩), .int .i64 a] w fun e w' => (∃ y, e = .returned (.tuple #[.int .u8 (x.inDV (some (.gate, a))), .int .i64 y])) ∧ BNx w S L (x.inD (some (.gate, a))) w' :=
 (inGate_ok h a).mono fun e w' ⟨q, r⟩ => ⟨⟨_, q⟩, by subst r; exact .refl h⟩
end
end Go.Proofs.YtonfjhbfkichkaaGreat.Bs
