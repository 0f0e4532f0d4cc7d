/- The bus and its devices: BsByte. -/
import Derived.Test.YtclejmdmbanedaaGreatBp03
namespace Go.Proofs.YtclejmdmbanedaaGreat.Bs
open Go.ChangeShapes Go.WideShapes Go.ChangeAt Go.RowKit
open Go.Proofs.YtclejmdmbanedaaGreat.Ut (Kp heap_lt heap_kept heap_set heap_new noB isB kpB)
set_option linter.unusedVariables false
set_option maxRecDepth 20000
theorem pic_bd {m : Pc.M2} (k : m.Ok) (a : Int) : Byt (m.inn a) := by
  unfold Pc.M2.inn Pc.Ch.shown
  repeat' split
  · exact k.a.srv
  · exact k.a.asks
  · exact k.a.msk
  · exact k.b.srv
  · exact k.b.asks
  · exact k.b.msk
theorem pit_bd {f : Nat → Pt.Cn} (k : Pt.Oks f) (a now : Int) : Byt (Pt.innV f a now) := by
  unfold Pt.innV
  split
  · exact ⟨by decide, by decide⟩
  · exact Pt.Cn.told_bd (k _) now
theorem uart_bd {u : Ut.U} (k : u.Ok) (a : Int) : Byt (u.inV a) := by
  have why : u.why = 1 ∨ u.why = 2 ∨ u.why = 4 := by
    unfold Ut.U.why
    repeat' split
    · exact .inr (.inr rfl)
    · exact .inr (.inl rfl)
    · exact .inl rfl
  unfold Ut.U.inV
  repeat' split
  · exact k.d0
  · unfold Ut.U.first
    cases h : u.came with
    | nil => exact ⟨by decide, by decide⟩
    | cons b l => exact k.came b (by rw [h]; exact .head _)
  · exact k.d1
  · exact ⟨k.want.1, by have := k.want.2; omega⟩
  · unfold Ut.U.told
    split <;> exact ⟨by omega, by omega⟩
  · exact k.line
  · exact k.modem
  · unfold Ut.U.status
    repeat' split
    all_goals exact ⟨by omega, by omega⟩
  · exact ⟨by decide, by decide⟩
  · exact k.jot
theorem ide_nn {d : Dk.Id} (k : d.Ok) (a : Int) : 0 ≤ d.iV a 1 := by
  unfold Dk.Id.iV
  split
  · have g : 0 ≤ d.getsV 1 := by
      have := k.getV.1
      show 0 ≤ 0 + d.getV * 2 ^ (8 * 0)
      simpa using this
    unfold Dk.Id.inV Dk.Id.status
    repeat' split
    · decide
    · exact g
    · exact k.r1.1
    · exact k.r2.1
    · exact k.r3.1
    · exact k.r4.1
    · exact k.r5.1
    · exact k.r6.1
    all_goals decide
  · decide
theorem inV1_byt {x : Bm} (k : x.Ok) (o : Option (Dv × Int)) : Byt (x.inDV o) := by
  unfold Bm.inDV
  split
  · exact pic_bd k.p _
  · exact pit_bd k.f _ _
  · exact uart_bd k.u _
  · exact ⟨by omega, by omega⟩
  · unfold gateV
    split <;> exact ⟨by decide, by decide⟩
  · exact ⟨by decide, by decide⟩
theorem port_bd {p a : Int} {v : Dv} (h : portOf p = some (v, a)) : match v with | .pic => 0 ≤ a ∧ a < 4 | .pit => 0 ≤ a ∧ a < 4 | .uart => 0 ≤ a ∧ a < 8 | .ide => 0 ≤ a ∧ a < 9 | .gate => a = 0 := by
  unfold portOf at h
  repeat' split at h
  all_goals first
    | (injection h with h; injection h with h1 h2; subst h1; subst h2; dsimp only; omega)
    | (injection h with h; injection h with h1 h2; subst h1; subst h2; rfl)
    | cases h
section
variable {w : World} {S : Nat → Prop} {L : Loc} {x : Bm}
theorem pic_out (h : BW w S L x) (k : x.Ok) {a v : Int} (ha : 0 ≤ a ∧ a < 4) (hv : Byt v) : Calls Tryz.prog 67 #[.pointer (some ⟨L.P, 0, none⟩), .int .i64 a, .int .u8 v] w fun e w' => (∃ y, e = .returned (.int .i64 y)) ∧ BNx w S L (x.outD v (some (.pic, a))) w' :=
  (bPic h (fun q => Pc.out_ok w L.P x.p q k.p a v ha.1 ha.2 hv)).mono fun e w' ⟨q, r⟩ => ⟨⟨_, q⟩, r⟩
theorem pit_out (h : BW w S L x) (k : x.Ok) {a v : Int} (ha : 0 ≤ a ∧ a < 4) (hv : Byt v) : Calls Tryz.prog 69 #[.pointer (some ⟨L.B, 0, none⟩), .int .i64 a, .int .u8 v] w fun e w' => (∃ y, e = .returned (.int .i64 y)) ∧ BNx w S L (x.outD v (some (.pit, a))) w' :=
  (outTimer_ok h k a v ha.1 ha.2 hv).mono fun e w' ⟨q, r⟩ => ⟨⟨_, q⟩, r⟩
theorem uart_out (h : BW w S L x) (k : x.Ok) {a v : Int} (ha : 0 ≤ a ∧ a < 8) (hv : Byt v) (hw : x.wk + 4 < 9007199254740) : Calls Tryz.prog 71 #[.pointer (some ⟨L.U, 0, none⟩), .int .i64 a, .int .u8 v] w fun e w' => (∃ y, e = .returned (.int .i64 y)) ∧ BNx w S L (x.outD v (some (.uart, a))) w' := by
  refine (bUart (E := fun e => e = .returned (.int .i64 0)) (m := x.u.out a v) h (fun T q => ?_)).mono fun e w' ⟨q, r⟩ => ⟨⟨0, q⟩, r⟩
  have := Ut.wOut q k.u a v hv (by unfold Bm.wk at hw; omega)
  rwa [if_pos (show 0 ≤ a ∧ a < 8 from ha), if_pos (show 0 ≤ a ∧ a < 8 from ha)] at this
theorem ide_out (h : BW w S L x) (k : x.Ok) {a v : Int} (hv : Byt v) (hw : x.wk + 4 < 9007199254740) : Calls Tryz.prog 73 #[.pointer (some ⟨L.B, 0, none⟩), .int .i64 a, .int .u8 v] w fun e w' => (∃ y, e = .returned (.int .i64 y)) ∧ BNx w S L (x.outD v (some (.ide, a))) w' :=
  (outDisk_ok h k a v hv (by omega)).mono fun e w' ⟨q, r⟩ => ⟨⟨_, q⟩, r⟩
theorem gate_out (h : BW w S L x) {a v : Int} (hv : Byt v) : Calls Tryz.prog 75 #[.pointer (some ⟨L.B, 0, none⟩), .int .i64 a, .int .u8 v] w fun e w' => (∃ y, e = .returned (.int .i64 y)) ∧ BNx w S L (x.outD v (some (.gate, a))) w' :=
  (outGate_ok h a v hv).mono fun e w' ⟨q, r⟩ => ⟨⟨_, q⟩, r⟩
theorem pic_in (h : BW w S L x) (k : x.Ok) {a : Int} (ha : 0 ≤ a ∧ a < 4) : Calls Tryz.prog 68 #[.pointer (some ⟨L.P, 0, none⟩), .int .i64 a] w fun e w' => (∃ y, e = .returned (.tuple #[.int .u8 (x.inDV (some (.pic, a))), .int .i64 y])) ∧ BNx w S L (x.inD (some (.pic, a))) w' := by
  refine (bPic (E := fun e => e = .returned (.tuple #[.int .u8 (x.p.inn a), .int .i64 0])) (m := x.p) h (fun q => ?_)).mono fun e w' ⟨q, r⟩ => ⟨⟨0, q⟩, r⟩
  have := Pc.in_ok w L.P x.p q k.p a ha.1 ha.2
  rwa [k.st] at this
theorem pit_in (h : BW w S L x) (k : x.Ok) {a : Int} (ha : 0 ≤ a ∧ a < 4) : Calls Tryz.prog 70 #[.pointer (some ⟨L.B, 0, none⟩), .int .i64 a] w fun e w' => (∃ y, e = .returned (.tuple #[.int .u8 (x.inDV (some (.pit, a))), .int .i64 y])) ∧ BNx w S L (x.inD (some (.pit, a))) w' :=
  (inTimer_ok h k a ha.1 ha.2).mono fun e w' ⟨q, r⟩ => ⟨⟨_, q⟩, r⟩
theorem uart_in (h : BW w S L x) (k : x.Ok) {a : Int} (ha : 0 ≤ a ∧ a < 8) : Calls Tryz.prog 72 #[.pointer (some ⟨L.U, 0, none⟩), .int .i64 a] w fun e w' => (∃ y, e = .returned (.tuple #[.int .u8 (x.inDV (some (.uart, a))), .int .i64 y])) ∧ BNx w S L (x.inD (some (.uart, a))) w' := by
  refine (bUart (E := fun e => e = .returned (.tuple #[.int .u8 (x.u.inV a), .int .i64 0])) (m := x.u.inn a) h (fun T q => ?_)).mono fun e w' ⟨q, r⟩ => ⟨⟨0, q⟩, r⟩
  have := Ut.wIn q k.u a
  rwa [if_pos (show 0 ≤ a ∧ a < 8 from ha), if_pos (show 0 ≤ a ∧ a < 8 from ha), if_pos (show 0 ≤ a ∧ a < 8 from ha)] at this
theorem ide_in (h : BW w S L x) (k : x.Ok) {a : Int} : Calls Tryz.prog 74 #[.pointer (some ⟨L.B, 0, none⟩), .int .i64 a] w fun e w' => (∃ y, e = .returned (.tuple #[.int .u8 (x.inDV (some (.ide, a))), .int .i64 y])) ∧ BNx w S L (x.inD (some (.ide, a))) w' :=
  (inDisk_ok h k a (ide_nn k.d a)).mono fun e w' ⟨q, r⟩ => ⟨⟨_, q⟩, r⟩
theorem gate_in (h : BW w S L x) {a : Int} : Calls Tryz.prog 76 #[.pointer (some ⟨L.B, 0, none⟩), .int .i64 a] w fun e w' => (∃ y, e = .returned (.tuple #[.int .u8 (x.inDV (some (.gate, a))), .int .i64 y])) ∧ BNx w S L (x.inD (some (.gate, a))) w' :=
  (inGate_ok h a).mono fun e w' ⟨q, r⟩ => ⟨⟨_, q⟩, by subst r; exact .refl h⟩
end
end Go.Proofs.YtclejmdmbanedaaGreat.Bs
