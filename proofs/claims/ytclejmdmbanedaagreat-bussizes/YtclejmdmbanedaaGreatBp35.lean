/- The bus and its devices: BsNew, BrNew, BsBoth, BsCalls, BsAwake, BsOpen. -/
import Derived.Test.YtclejmdmbanedaaGreatBp34
import Derived.Test.YtclejmdmbanedaaGreatBp03
import Derived.Test.YtclejmdmbanedaaGreatBp37
import Derived.Test.YtclejmdmbanedaaGreatBp26
import Derived.Test.YtclejmdmbanedaaGreatBp13
import Derived.Test.YtclejmdmbanedaaGreatRows
import Derived.WalkKit
import Derived.ProofKit
import Derived.OpenShut
import Derived.Carry
import Derived.Deep.Slices
import Derived.Below
import Derived.SizedLaws
namespace Go.Proofs.YtclejmdmbanedaaGreat.Bs
open Go.ChangeShapes Go.WideShapes Go.ChangeAt Go.RowKit
open Go.Proofs.YtclejmdmbanedaaGreat.Ut (Kp heap_lt heap_kept heap_set heap_new noB isB kpB)
set_option linter.unusedVariables false
set_option maxRecDepth 20000
def memO (m : Rm.Mem) : Rm.Mem := { m with closed := false }
/-- A bus that is new, ahead of the lines being told. -/
def bm0 (n : Nat) (D : Nat → Int) (m : Rm.Mem) : Bm := ⟨Pc.m00, Pt.f00, Ut.u0, Dk.id0 n D, m, false, 0⟩
theorem byt0 : Ut.By 0 := ⟨by decide, by decide⟩
theorem u0_ok : Ut.u0.Ok := ⟨byt0, byt0, ⟨by decide, by decide⟩, byt0, byt0, byt0, (fun b hb => nomatch hb), by decide, (fun b hb => nomatch hb)⟩
theorem bm0_ok {n : Nat} {D : Nat → Int} {m : Rm.Mem} (h : (Dk.id0 n D).Ok) : (bm0 n D m).Ok := ⟨Pc.m00_ok, by show Pc.M2.settle Pc.m00 = Pc.m00; kernel_rfl, Pt.f00_ok, u0_ok, h, by show (0 : Int) ≤ 0; decide, by show (0 : Int) < 18446744073709551616; decide⟩
def ramRs (M : Nat) (m : Rm.Mem) : Nat → Res := fun i => if i = 6 then ramR M m else .none
/-- What there is ahead of the last steps of New. -/
theorem rs_all (L : Loc) (x : Bm) (hc : x.cl = false) (hn : x.now = 0) : updR (updR (updR (updR (updR (updR (ramRs L.M x.m) 5 (ideR L.I x.d)) 2 (picR L.P x.p)) 3 (pitR L.T x.f)) 4 (uartR L.U x.u)) 0 (.blk L.B (busO L false 0))) 1 (.blk L.Q (mapO L ports)) = busRs L x := by
  funext j
  match j with
  | 0 => show Res.blk L.B (busO L false 0) = Res.blk L.B (busO L x.cl x.now); rw [hc, hn]
  | 1 | 2 | 3 | 4 | 5 | 6 => rfl
  | n + 7 => rfl
def BNew (w : World) (S : Nat → Prop) (M : Nat) (x : Bm) (B : Nat) (w' : World) : Prop := ∃ L S', L.B = B ∧ L.M = M ∧ BW w' S' L x ∧ Nx w S w' S'
set_option maxHeartbeats 2000000 in
theorem new_ok (w : World) (S : Nat → Prop) (M : Nat) (m : Rm.Mem) (h : Sys w S (ramRs M m)) (a : Option Addr) (Ld c : Nat) (bt : Nat → Int) (hb : Dk.BytAt w a Ld bt) (hbd : ∀ j, j < Ld → 0 ≤ bt j ∧ bt j < 256) (h1 : Ld % 512 = 0) (h2 : Ld ≤ 32768) : Calls Tryz.prog 10 #[.pointer (some ⟨M + 3, 0, none⟩), .slice a Ld c] w fun e w' => ∃ B, e = .returned (.tuple #[.pointer (some ⟨B, 0, none⟩), .int .i64 0]) ∧ BNew w S M (bm0 (Ld / 512) (Dk.dB Ld bt) (memO m)).tell B w' := by
  have HD : Hid _ := Dk.wNew w a Ld c bt hb h1 h2
  unfold Dk.INew at HD
  have okd : (Dk.id0 (Ld / 512) (Dk.dB Ld bt)).Ok := Dk.idN_ok h2 hbd
  obtain ⟨x0, hx0⟩ : ∃ x0, x0 = bm0 (Ld / 512) (Dk.dB Ld bt) (memO m) := ⟨_, rfl⟩
  have ok0 : Hid x0.Ok := by rw [hx0]; exact bm0_ok okd
  obtain ⟨x1, hx1⟩ : ∃ x1 : Bm, x1 = bm0 (Ld / 512) (Dk.dB Ld bt) m := ⟨_, rfl⟩
  have e10 : Hid (x0 = { x1 with m := memO m }) := by show _ = _; rw [hx0, hx1]; rfl
  have e1 : Hid (x1.p = Pc.m00 ∧ x1.f = Pt.f00 ∧ x1.u = Ut.u0 ∧ x1.d = Dk.id0 (Ld / 512) (Dk.dB Ld bt) ∧ x1.m = m ∧ x1.cl = false ∧ x1.now = 0) := by rw [hx1]; exact ⟨rfl, rfl, rfl, rfl, rfl, rfl, rfl⟩
  rw [← hx0]
  generalize Dk.id0 (Ld / 512) (Dk.dB Ld bt) = d0 at *
  have P0 : Hid (Sys w S (ramRs M m)) := h
  clear h hb hbd h1 h2 okd hx0 hx1
  go_enter Tryz.func10, Tryz.ntmps10
  go_wp2_with fail
  refine Calls.mono HD.out ?_; rintro e w1 ⟨rfl, T1, i1, n1, k1⟩
  obtain ⟨I, hI⟩ : ∃ I, I = w.heap.size := ⟨_, rfl⟩
  rw [← hI] at i1
  obtain ⟨S1, s1, nx1⟩ := P0.out.new (i := 5) rfl (r' := ideR I d0) i1 (fun k g => ⟨n1 k g, i1.lt k g⟩) (kDk k1)
  have P1 : Hid (Sys w1 S1 (updR (ramRs M m) 5 (ideR I d0))) := s1
  have N1 : Hid (Nx w S w1 S1) := nx1
  clear i1 n1 k1 s1 nx1 P0 HD
  go_wp2_with fail
  rw [← hI]
  clear hI
  refine Calls.mono (Pc.new_ok w1) ?_; rintro e w2 ⟨rfl, i2, k2⟩
  obtain ⟨P, hP⟩ : ∃ P, P = w1.heap.size := ⟨_, rfl⟩
  rw [← hP] at i2
  obtain ⟨S2, s2, nx2⟩ := P1.out.new (i := 2) rfl (r' := picR P Pc.m00) (T' := isB P) ⟨rfl, i2⟩ (fun k (g : k = P) => ⟨by omega, by rw [g]; exact i2.lt⟩) (kPc k2)
  have P2 : Hid (Sys w2 S2 (updR (updR (ramRs M m) 5 (ideR I d0)) 2 (picR P Pc.m00))) := s2
  have N2 : Hid (Nx w S w2 S2) := N1.out.trans nx2
  clear i2 k2 s2 nx2 P1 N1
  go_wp2_with fail
  rw [← hP]
  clear hP
  refine Calls.mono (Pt.new_ok w2) ?_; rintro e w3 ⟨T, rfl, hT, i3, k3⟩
  obtain ⟨S3, s3, nx3⟩ := P2.out.new (i := 3) rfl (r' := pitR T Pt.f00) (T' := isB T) ⟨rfl, i3⟩ (fun k (g : k = T) => ⟨by omega, by rw [g]; exact i3.lt⟩) (kPt k3)
  have P3 : Hid (Sys w3 S3 (updR (updR (updR (ramRs M m) 5 (ideR I d0)) 2 (picR P Pc.m00)) 3 (pitR T Pt.f00))) := s3
  have N3 : Hid (Nx w S w3 S3) := N2.out.trans nx3
  clear i3 k3 s3 nx3 P2 N2 hT
  go_wp2_with fail
  refine Calls.mono (Ut.wNew w3) ?_; rintro e w4 ⟨U, T4, rfl, i4, n4, k4⟩
  obtain ⟨S4, s4, nx4⟩ := P3.out.new (i := 4) rfl (r' := uartR U Ut.u0) i4 (fun k g => ⟨n4 k g, i4.lt k g⟩) k4
  have P4 : Hid (Sys w4 S4 (updR (updR (updR (updR (ramRs M m) 5 (ideR I d0)) 2 (picR P Pc.m00)) 3 (pitR T Pt.f00)) 4 (uartR U Ut.u0))) := s4
  have N4 : Hid (Nx w S w4 S4) := N3.out.trans nx4
  clear i4 n4 k4 s4 nx4 P3 N3
  obtain ⟨L, hL⟩ : ∃ L : Loc, L = ⟨w4.heap.size, w4.heap.size + 1, P, T, U, I, M⟩ := ⟨_, rfl⟩
  obtain ⟨w5, hw5⟩ : ∃ w5, w5 = w4.alloc (bus0 L) := ⟨_, rfl⟩
  obtain ⟨S5, s5, nx5⟩ := P4.out.new (i := 0) (w' := w5) rfl (r' := .blk L.B (bus0 L)) (T' := isB L.B) ⟨rfl, by rw [hw5, hL]; exact heap_new _ _⟩ (fun k (g : k = L.B) => by rw [g, hw5, hL]; exact ⟨Nat.le_refl _, by simp⟩) (by rw [hw5]; exact Kp.alloc _ _ _)
  have P5 : Hid (Sys w5 S5 (updR (updR (updR (updR (updR (ramRs M m) 5 (ideR I d0)) 2 (picR P Pc.m00)) 3 (pitR T Pt.f00)) 4 (uartR U Ut.u0)) 0 (.blk L.B (bus0 L)))) := s5
  have N5 : Hid (Nx w S w5 S5) := N4.out.trans nx5
  have HL : Hid (Calls Tryz.prog 34 #[.pointer (some ⟨L.B, 0, none⟩)] w5 fun e w' => e = .returned (.tuple #[]) ∧ w'.heap[L.B]? = some (busO L false 0) ∧ w'.heap[L.Q]? = some (mapO L ports) ∧ Kp (isB L.B) w5 w') := layPorts_ok w5 L (by rw [hw5, hL]; exact heap_new _ _) (by rw [hw5, hL]; simp)
  have qn : Hid (L.Q = w5.heap.size) := by show _ = _; rw [hw5, hL]; simp
  have HB : Hid (L.B = w4.heap.size) := by rw [hL]; exact rfl
  have HF : Hid (L.M = M ∧ L.P = P ∧ L.T = T ∧ L.U = U ∧ L.I = I) := by rw [hL]; exact ⟨rfl, rfl, rfl, rfl, rfl⟩
  have hw5' : Hid (w4.alloc (.cells #[.pointer (some ⟨P, 0, none⟩), .pointer (some ⟨T, 0, none⟩), .pointer (some ⟨U, 0, none⟩), .pointer (some ⟨I, 0, none⟩), .pointer (some ⟨M + 3, 0, none⟩), .bool false, .int .u64 0, .map none] 94) = w5) := by rw [hw5, hL]; exact rfl
  clear hL hw5 s5 nx5 P4 N4
  go_wp2_with fail
  rw [hw5'.out, ← HB.out]
  clear hw5' HB
  refine Calls.mono HL.out ?_; rintro e w6 ⟨rfl, b6, q6, k6⟩
  have hz6 : ∃ S6, BW w6 S6 L x1 ∧ Nx w S w6 S6 := by
    obtain ⟨F1, F2, F3, F4, F5⟩ := HF.out
    obtain ⟨E1, E2, E3, E4, E5, E6, E7⟩ := e1.out
    obtain ⟨TT, t1, t2, t3⟩ := P5.out.split 0 1 (by decide) rfl
    have t1' : TT L.B := t1.1
    obtain ⟨S6, s6, nx6⟩ := t3 (.blk L.B (busO L false 0)) (.blk L.Q (mapO L ports)) w6 TT (isB L.Q) ⟨t1', b6⟩ ⟨rfl, q6⟩ ⟨fun _ f => .inl f, k6.mono fun j _ (g : j = L.B) => g ▸ t1'⟩ (fun k g => Nat.lt_of_lt_of_le (t2 k g).2 k6.size) (fun k (g : k = L.Q) => by
      have := qn.out
      have := heap_lt q6
      refine ⟨.inr (by omega), by omega, fun f => ?_⟩
      have := (t2 k f).2
      omega)
    refine ⟨S6, ?_, N5.out.trans nx6⟩
    show Sys w6 S6 (busRs L x1)
    rw [← rs_all L x1 E6 E7, E1, E2, E3, E4, E5, F1, F2, F3, F4, F5]
    refine cast ?_ s6
    congr 1
    funext j
    match j with
    | 0 | 1 | 2 | 3 | 4 | 5 | 6 => rfl
    | n + 7 => rfl
  clear b6 q6 k6 HL qn P5 N5
  obtain ⟨S6, q6, nx6⟩ := hz6
  have Q6 : Hid _ := q6
  have N6 : Hid _ := nx6
  have HG : Hid (Calls Tryz.prog 35 #[.pointer (some ⟨M + 3, 0, none⟩), .bool true] w6 fun e w' => e = .returned (.tuple #[]) ∧ BNx w6 S6 L x0 w') := by
    rw [e10.out, ← HF.out.1]
    refine bRam q6 (by rw [e1.out.2.2.2.2.1]; rfl) (fun q => ?_)
    have := Rm.gate_ok w6 L.M x1.m q true
    rw [e1.out.2.2.2.2.1] at this ⊢
    exact this
  have HT : Hid (∀ W S, BW W S L x0 → _) := fun W S h => tell_ok h ok0.out
  have HM : Hid (L.M = M) := HF.out.1
  clear q6 nx6 e10 e1 ok0 HF
  go_wp2_with fail
  refine Calls.mono HG.out ?_; rintro e w7 ⟨rfl, S7, q7, n7⟩
  have Q7 : Hid _ := q7
  have N7 : Hid (Nx w S w7 S7) := N6.out.trans n7
  clear q7 n7 Q6 N6 HG
  go_wp2_with fail
  refine Calls.mono (HT.out _ _ Q7.out) ?_; rintro e w8 ⟨rfl, S8, q8, n8⟩
  have HZ : Hid (BNew w S M x0.tell L.B w8) := ⟨L, S8, rfl, HM.out, q8, N7.out.trans n8⟩
  clear q8 n8 Q7 N7 HT HM
  go_wp2
  go_ret2
  exact ⟨_, rfl, HZ.out⟩
theorem new_nil (w : World) (a : Option Addr) (Ld c : Nat) : Calls Tryz.prog 10 #[.pointer none, .slice a Ld c] w fun e w' => e = .returned (.tuple #[.pointer none, .int .i64 1]) ∧ w' = w := by
  go_enter Tryz.func10, Tryz.ntmps10
  go_wp2
  go_ret2
  exact ⟨rfl, rfl⟩
end Go.Proofs.YtclejmdmbanedaaGreat.Bs
namespace Go.Proofs.YtclejmdmbanedaaGreat.Bs
open Go.ChangeShapes Go.WideShapes Go.ChangeAt Go.RowKit
open Go.Proofs.YtclejmdmbanedaaGreat.Ut (Kp heap_lt heap_kept heap_set heap_new noB isB kpB)
set_option linter.unusedVariables false
set_option maxRecDepth 20000
def memRs (M : Nat) (o : Obj) : Nat → Res := fun i => if i = 6 then .blk M o else .none
theorem drs_all (L : LocR) (x : Bm) (hc : x.cl = false) (hn : x.now = 0) : updR (updR (updR (updR (updR (memRs L.M (refO L false)) 5 (ideX L.I L.gD L.cap x.d)) 2 (picX L.P x.p)) 3 (pitX L.T x.f)) 4 (uartX L.U x.u)) 0 (.blk L.B (docO L 0)) = docRs L x := by
  funext j
  match j with
  | 0 => show Res.blk L.B (docO L 0) = Res.blk L.B (docO L x.now); rw [hn]
  | 6 => show Res.blk L.M (refO L false) = Res.blk L.M (refO L x.cl); rw [hc]
  | 1 | 2 | 3 | 4 | 5 => rfl
  | n + 7 => rfl
def DNew (w : World) (S : Nat → Prop) (M : Nat) (x : Bm) (B : Nat) (w' : World) : Prop := ∃ L S', L.B = B ∧ L.M = M ∧ DW w' S' L x ∧ Nx w S w' S'
theorem xw_of {w w' : World} {R gD cap : Nat} {dn : Int} {d : Dk.Id} (x1 : Dk.XAt w' R gD cap dn (.slice none 0 0) d) (xd : Dk.Dn d dn) (r1 : w.heap.size ≤ R) (r2 : w.heap.size ≤ gD) : Dk.XW w' (fun k => k = R ∨ k = gD) R gD cap d := by
  refine ⟨⟨dn, _, x1, xd, fun k q => ?_⟩, fun k q => ?_⟩
  · rcases q with q | q | q
    · exact .inl q
    · exact .inr q
    · cases q
  · rcases q with q | q
    · exact x1.foot_lt (.inl q)
    · exact x1.foot_lt (.inr (.inl q))
set_option maxHeartbeats 2000000 in
theorem dnew_ok (w : World) (S : Nat → Prop) (M : Nat) (V0 V1 V2 V3 : Value) (cl : Bool) (h : Sys w S (memRs M (.cells #[V0, V1, V2, V3, .bool cl] 58 (0, 0)))) (a : Option Addr) (Ld c : Nat) (bt : Nat → Int) (hb : Dk.BytAt w a Ld bt) (hbd : ∀ j, j < Ld → 0 ≤ bt j ∧ bt j < 256) (h1 : Ld % 512 = 0) (h2 : Ld ≤ 32768) (mm : Rm.Mem) : Calls Tryz.prog 12 #[.pointer (some ⟨M, 0, none⟩), .slice a Ld c] w fun e w' => ∃ B, e = .returned (.tuple #[.pointer (some ⟨B, 0, none⟩), .int .i64 0]) ∧ DNew w S M (bm0 (Ld / 512) (Dk.dB Ld bt) mm).tell B w' := by
  have HD : Hid _ := Dk.xnew_ok w a Ld c bt hb h1 h2
  unfold Dk.XNew at HD
  have okd : (Dk.id0 (Ld / 512) (Dk.dB Ld bt)).Ok := Dk.idN_ok h2 hbd
  obtain ⟨x1, hx1⟩ : ∃ x1 : Bm, x1 = bm0 (Ld / 512) (Dk.dB Ld bt) mm := ⟨_, rfl⟩
  have ok0 : Hid x1.Ok := by rw [hx1]; exact bm0_ok okd
  have e1 : Hid (x1.p = Pc.m00 ∧ x1.f = Pt.f00 ∧ x1.u = Ut.u0 ∧ x1.d = Dk.id0 (Ld / 512) (Dk.dB Ld bt) ∧ x1.cl = false ∧ x1.now = 0) := by rw [hx1]; exact ⟨rfl, rfl, rfl, rfl, rfl, rfl⟩
  rw [← hx1]
  generalize Dk.id0 (Ld / 512) (Dk.dB Ld bt) = d0 at *
  have P0 : Hid (Sys w S (memRs M (.cells #[V0, V1, V2, V3, .bool cl] 58 (0, 0)))) := h
  clear h hb hbd h1 h2 okd hx1
  go_enter Tryz.func12, Tryz.ntmps12
  go_wp2_with fail
  refine Calls.mono HD.out ?_; rintro e w1 ⟨I, rfl, gD, cap, dn, i1, i2, r1, r2, k1⟩
  have xw := xw_of i1 i2 r1 r2
  obtain ⟨S1, s1, nx1⟩ := P0.out.new (i := 5) rfl (r' := ideX I gD cap d0) xw (fun k g => ⟨by rcases g with g | g <;> omega, xw.lt k g⟩) (kDk k1)
  have P1 : Hid (Sys w1 S1 (updR (memRs M (.cells #[V0, V1, V2, V3, .bool cl] 58 (0, 0))) 5 (ideX I gD cap d0))) := s1
  have N1 : Hid (Nx w S w1 S1) := nx1
  have hm : w1.heap[M]? = some (.cells #[V0, V1, V2, V3, .bool cl] 58 (0, 0)) := by
    obtain ⟨T, a, b⟩ := P1.out.at 6
    exact a.2
  have m4 := cell_of hm (k := 4) rfl
  have mf := fz_of hm 4
  obtain ⟨S1', s1', nx1'⟩ := Sys.set (o' := .cells #[V0, V1, V2, V3, .bool false] 58 (0, 0)) P1.out (i := 6) rfl (kpB M w1 4 (.bool false)) (by rw [heap_set hm]; rfl)
  obtain ⟨w1', hw1'⟩ : ∃ w1', w1' = w1.setCell ⟨M, 4, none⟩ (.bool false) := ⟨_, rfl⟩
  rw [← hw1'] at s1' nx1'
  have P1' : Hid (Sys w1' S1' (updR (memRs M (.cells #[V0, V1, V2, V3, .bool false] 58 (0, 0))) 5 (ideX I gD cap d0))) := by
    refine cast ?_ s1'
    congr 1
    funext j
    match j with
    | 0 | 1 | 2 | 3 | 4 | 5 | 6 => rfl
    | n + 7 => rfl
  have N1' : Hid (Nx w S w1' S1') := N1.out.trans nx1'
  have hw1 : Hid (w1.setCell ⟨M, 4, none⟩ (.bool false) = w1') := hw1'.symm
  clear i1 i2 r1 r2 k1 s1 nx1 P0 HD xw s1' nx1' P1 N1 hm hw1'
  go_wp2_with fail
  rw [hw1.out]
  clear hw1 m4 mf
  refine Calls.mono (Pc.sNew w1') ?_; rintro e w2 ⟨rfl, i2, k2⟩
  obtain ⟨P, hP⟩ : ∃ P, P = w1'.heap.size := ⟨_, rfl⟩
  rw [← hP] at i2
  obtain ⟨S2, s2, nx2⟩ := P1'.out.new (i := 2) rfl (r' := picX P Pc.m00) (T' := isB P) ⟨rfl, i2⟩ (fun k (g : k = P) => ⟨by omega, by rw [g]; exact i2.lt⟩) (kPc k2)
  have P2 : Hid (Sys w2 S2 (updR (updR (memRs M (.cells #[V0, V1, V2, V3, .bool false] 58 (0, 0))) 5 (ideX I gD cap d0)) 2 (picX P Pc.m00))) := s2
  have N2 : Hid (Nx w S w2 S2) := N1'.out.trans nx2
  clear i2 k2 s2 nx2 P1' N1'
  go_wp2_with fail
  rw [← hP]
  clear hP
  refine Calls.mono (Pt.xNew w2) ?_; rintro e w3 ⟨T, rfl, hT, i3, k3⟩
  obtain ⟨S3, s3, nx3⟩ := P2.out.new (i := 3) rfl (r' := pitX T Pt.f00) (T' := isB T) ⟨rfl, i3⟩ (fun k (g : k = T) => ⟨by omega, by rw [g]; exact i3.lt⟩) (kPt k3)
  have P3 : Hid (Sys w3 S3 (updR (updR (updR (memRs M (.cells #[V0, V1, V2, V3, .bool false] 58 (0, 0))) 5 (ideX I gD cap d0)) 2 (picX P Pc.m00)) 3 (pitX T Pt.f00))) := s3
  have N3 : Hid (Nx w S w3 S3) := N2.out.trans nx3
  clear i3 k3 s3 nx3 P2 N2 hT
  go_wp2_with fail
  refine Calls.mono (Ut.xNew w3) ?_; rintro e w4 ⟨U, T4, rfl, i4, n4, k4⟩
  obtain ⟨S4, s4, nx4⟩ := P3.out.new (i := 4) rfl (r' := uartX U Ut.u0) i4 (fun k g => ⟨n4 k g, i4.lt k g⟩) k4
  have P4 : Hid (Sys w4 S4 (updR (updR (updR (updR (memRs M (.cells #[V0, V1, V2, V3, .bool false] 58 (0, 0))) 5 (ideX I gD cap d0)) 2 (picX P Pc.m00)) 3 (pitX T Pt.f00)) 4 (uartX U Ut.u0))) := s4
  have N4 : Hid (Nx w S w4 S4) := N3.out.trans nx4
  clear i4 n4 k4 s4 nx4 P3 N3
  obtain ⟨L, hL⟩ : ∃ L : LocR, L = ⟨w4.heap.size, P, T, U, I, gD, cap, M, V0, V1, V2, V3⟩ := ⟨_, rfl⟩
  obtain ⟨w5, hw5⟩ : ∃ w5, w5 = w4.alloc (docO L 0) := ⟨_, rfl⟩
  obtain ⟨S5, s5, nx5⟩ := P4.out.new (i := 0) (w' := w5) rfl (r' := .blk L.B (docO L 0)) (T' := isB L.B) ⟨rfl, by rw [hw5, hL]; exact heap_new _ _⟩ (fun k (g : k = L.B) => by rw [g, hw5, hL]; exact ⟨Nat.le_refl _, by simp⟩) (by rw [hw5]; exact Kp.alloc _ _ _)
  have Q6 : Hid (DW w5 S5 L x1) := by
    obtain ⟨E1, E2, E3, E4, E6, E7⟩ := e1.out
    show Sys w5 S5 (docRs L x1)
    rw [← drs_all L x1 E6 E7, E1, E2, E3, E4]
    refine cast ?_ s5
    rw [hL]
    rfl
  have N6 : Hid (Nx w S w5 S5) := N4.out.trans nx5
  have HB : Hid (L.B = w4.heap.size) := by rw [hL]; exact rfl
  have HM : Hid (L.M = M) := by rw [hL]; exact rfl
  have hw5' : Hid (w4.alloc (.cells #[.pointer (some ⟨M, 0, none⟩), .pointer (some ⟨P, 0, none⟩), .pointer (some ⟨T, 0, none⟩), .pointer (some ⟨U, 0, none⟩), .pointer (some ⟨I, 0, none⟩), .int .u64 0] 51) = w5) := by rw [hw5, hL]; exact rfl
  have HT : Hid (∀ W S, DW W S L x1 → _) := fun W S h => lines_ok h ok0.out
  clear hL hw5 s5 nx5 P4 N4 e1 ok0
  go_wp2_with fail
  rw [hw5'.out, ← HB.out]
  clear hw5' HB
  refine Calls.mono (HT.out _ _ Q6.out) ?_; rintro e w8 ⟨rfl, S8, q8, n8⟩
  have HZ : Hid (DNew w S M x1.tell L.B w8) := ⟨L, S8, rfl, HM.out, q8, N6.out.trans n8⟩
  clear q8 n8 Q6 N6 HT HM
  go_wp2
  go_ret2
  exact ⟨_, rfl, HZ.out⟩
end Go.Proofs.YtclejmdmbanedaaGreat.Bs
namespace Go.Proofs.YtclejmdmbanedaaGreat.Bs
open Go.ChangeShapes Go.WideShapes Go.ChangeAt Go.RowKit
open Go.Proofs.YtclejmdmbanedaaGreat.Ut (Kp heap_lt heap_kept heap_set heap_new noB isB kpB)
set_option linter.unusedVariables false
set_option maxRecDepth 20000
def sysR (Rs : Nat → Res) : Res := ⟨fun w S => Sys w S Rs, fun h k d => h.loc k d⟩
def busR (L : Loc) (x : Bm) : Res := sysR (busRs L x)
def docR (L : LocR) (x : Bm) : Res := sysR (docRs L x)
/-- A world with owners, all of them new since W. -/
structure Hs (W w : World) (Rs : Nat → Res) : Prop where
  ex : ∃ S, Sys w S Rs ∧ ∀ k, S k → W.heap.size ≤ k
  kp : Kp noB W w
theorem Hs.none (W : World) : Hs W W (fun _ => .none) := ⟨⟨noB, Sys.none _, fun _ f => f.elim⟩, Kp.refl _ _⟩
section
variable {W w : World} {Rs : Nat → Res}
theorem Hs.mk' {S S' : Nat → Prop} {w' : World} {Rs' : Nat → Res} (kp : Kp noB W w) (hS : ∀ k, S k → W.heap.size ≤ k) (a : Sys w' S' Rs') (n : Nx w S w' S') : Hs W w' Rs' :=
  ⟨⟨S', a, fun k g => by
    rcases n.sub k g with f | f
    · exact hS k f
    · exact Nat.le_trans kp.size f⟩, kp.over n.kp (fun j hj g => by have := hS j g; omega)⟩
theorem Hs.keep {w' : World} (h : Hs W w Rs) (k : Kp noB w w') : Hs W w' Rs := by
  obtain ⟨S, a, b⟩ := h.ex
  exact ⟨⟨S, a.keep k, b⟩, h.kp.trans k⟩
theorem Hs.drew (h : Hs W w Rs) : Hs W w.drew Rs := h.keep (Kp.refl _ _).drew
theorem Hs.new {w' : World} {T' : Nat → Prop} (h : Hs W w Rs) {i : Nat} (hi : Rs i = .none) {r' : Res} (a : r'.R w' T') (n : ∀ k, T' k → w.heap.size ≤ k ∧ k < w'.heap.size) (k : Kp noB w w') : Hs W w' (updR Rs i r') := by
  obtain ⟨S, q, b⟩ := h.ex
  obtain ⟨S', c, d⟩ := q.new hi a n k
  exact .mk' h.kp b c d
theorem Hs.drop (h : Hs W w Rs) (i : Nat) : Hs W w (updR Rs i .none) := by
  obtain ⟨S, q, b⟩ := h.ex
  exact ⟨⟨S, q.drop i, b⟩, h.kp⟩
/-- A call of one of them. -/
theorem Hs.call {f : FuncId} {args : Array Value} {E : Ending → World → Res → Prop} (h : Hs W w Rs) (i : Nat) (hc : ∀ T, (Rs i).R w T → Calls Tryz.prog f args w fun e w' => ∃ r' T', E e w' r' ∧ r'.R w' T' ∧ Nx w T w' T' ∧ ∀ k, T' k → k < w'.heap.size) : Calls Tryz.prog f args w fun e w' => ∃ r', E e w' r' ∧ Hs W w' (updR Rs i r') := by
  obtain ⟨S, q, b⟩ := h.ex
  obtain ⟨T, a1, a2, a3⟩ := q.fst i
  refine (hc T a1).mono fun e w' ⟨r', T', c1, c2, c3, c4⟩ => ?_
  obtain ⟨S', d1, d2⟩ := a3 r' w' T' c2 c3 c4
  exact ⟨r', c1, .mk' h.kp b d1 d2⟩
theorem Hs.bus {f : FuncId} {args : Array Value} {E : Ending → Prop} {L : Loc} {x x' : Bm} (h : Hs W w Rs) (i : Nat) (hi : Rs i = busR L x) (hc : ∀ S, BW w S L x → Calls Tryz.prog f args w fun e w' => E e ∧ BNx w S L x' w') : Calls Tryz.prog f args w fun e w' => E e ∧ Hs W w' (updR Rs i (busR L x')) := by
  refine (h.call (E := fun e w' r' => E e ∧ r' = busR L x') i (fun T a => ?_)).mono fun e w' ⟨r', ⟨q, r⟩, z⟩ => ⟨q, r ▸ z⟩
  rw [hi] at a
  exact (hc T a).mono fun e w' ⟨q, S', b, n⟩ => ⟨busR L x', fun k => S' k ∧ k < w'.heap.size, ⟨q, rfl⟩, b.lt, ⟨fun k g => n.sub k g.1, n.kp⟩, fun k g => g.2⟩
theorem Hs.busAt (h : Hs W w Rs) {i : Nat} {L : Loc} {x : Bm} (hi : Rs i = busR L x) : ∃ S, BW w S L x := by
  obtain ⟨S, q, b⟩ := h.ex
  obtain ⟨T, a, c⟩ := q.at i
  rw [hi] at a
  exact ⟨T, a⟩
theorem upd_self {Rs : Nat → Res} {i : Nat} {r : Res} : updR Rs i r i = r := by
  unfold updR
  rw [if_pos rfl]
theorem upd_other {Rs : Nat → Res} {i j : Nat} (e : j ≠ i) {r : Res} : updR Rs i r j = Rs j := by
  unfold updR
  rw [if_neg e]
theorem upd_twice (Rs : Nat → Res) (i : Nat) (r r' : Res) : updR (updR Rs i r) i r' = updR Rs i r' := by
  funext j
  unfold updR
  by_cases h : j = i
  · rw [if_pos h, if_pos h]
  · rw [if_neg h, if_neg h, if_neg h]
end
/-- Owners of an elder world, and such as are new since then. -/
def joinR (s : Nat) (Rs Rs2 : Nat → Res) : Nat → Res := fun j => if j < s then Rs j else Rs2 (j - s)
theorem Hs.join {W w w' : World} {Rs Rs2 : Nat → Res} (h : Hs W w Rs) (h2 : Hs w w' Rs2) (s : Nat) : Hs W w' (joinR s Rs Rs2) := by
  obtain ⟨S, ⟨own, a⟩, b⟩ := h.ex
  obtain ⟨S2, ⟨own2, a2⟩, b2⟩ := h2.ex
  refine ⟨⟨fun k => k < w'.heap.size ∧ (S k ∨ w.heap.size ≤ k), ⟨fun k => if w.heap.size ≤ k then s + own2 k else own k, fun j => ?_⟩, fun k g => ?_⟩, h.kp.trans h2.kp⟩
  · unfold joinR
    by_cases js : j < s
    · rw [if_pos js]
      obtain ⟨T, t1, t2⟩ := a j
      refine ⟨T, (Rs j).loc t1 h2.kp (fun _ _ => id), fun k g => ?_⟩
      obtain ⟨c1, c2, c3⟩ := t2 k g
      have := h2.kp.size
      exact ⟨by dsimp only; rw [if_neg (by omega)]; exact c1, ⟨by omega, .inl c2⟩, by omega⟩
    · rw [if_neg js]
      obtain ⟨T, t1, t2⟩ := a2 (j - s)
      refine ⟨T, t1, fun k g => ?_⟩
      obtain ⟨c1, c2, c3⟩ := t2 k g
      have := b2 k c2
      exact ⟨by dsimp only; rw [if_pos this, c1]; omega, ⟨c3, .inr this⟩, c3⟩
  · rcases g.2 with f | f
    · exact b k f
    · exact Nat.le_trans h.kp.size f
/-- The bus and the document's. -/
def two (r r' : Res) : Nat → Res := fun j => if j = 0 then r else if j = 1 then r' else .none
theorem two_0 (r r' q : Res) : updR (two r r') 0 q = two q r' := by
  funext j
  match j with
  | 0 | 1 => rfl
  | n + 2 => rfl
theorem two_1 (r r' q : Res) : updR (two r r') 1 q = two r q := by
  funext j
  match j with
  | 0 | 1 => rfl
  | n + 2 => rfl
theorem none_0 (q : Res) : updR (fun _ => Res.none) 0 q = two q .none := by
  funext j
  match j with
  | 0 | 1 => rfl
  | n + 2 => rfl
/-- What Both leaves. -/
def BothP (w : World) (x y : Bm) (e : Ending) (w' : World) : Prop := ∃ L L', e = .returned (.tuple #[.pointer (some ⟨L.B, 0, none⟩), .pointer (some ⟨L'.B, 0, none⟩), .pointer (some ⟨L.M + 3, 0, none⟩)]) ∧ Hs w w' (two (busR L x) (docR L' y))
theorem kBelow {w w' : World} (h : Below w.heap.size w w') : Kp noB w w' := ⟨h.os, h.tape, h.output, h.size, fun k hk _ => h.block k hk⟩
set_option maxHeartbeats 1000000 in
theorem both_ok (w : World) (n : Nat) (n0 : 1 ≤ n) (n1 : n ≤ 256) (a : Option Addr) (Ld c : Nat) (bt : Nat → Int) (hb : Dk.BytAt w a Ld bt) (hbd : ∀ j, j < Ld → 0 ≤ bt j ∧ bt j < 256) (h1 : Ld % 512 = 0) (h2 : Ld ≤ 32768) : Calls Tryz.prog 13 #[.int .i64 n, .slice a Ld c] w fun e w' => BothP w (bm0 (Ld / 512) (Dk.dB Ld bt) (Rm.mem0 n)).tell (bm0 (Ld / 512) (Dk.dB Ld bt) (Rm.mem0 n)).tell e w' := by
  have HM : Hid _ := Rm.new_ok w n n0 n1
  have HR : Hid (∀ W, _) := fun W => Rm.refNew_ok W n n0 n1
  have HB : Hid (∀ W, Kp noB w W → Dk.BytAt W a Ld bt) := fun W k => hb.kept (dkK k) (fun _ _ => id)
  have HN : Hid (∀ W S M m, Sys W S (ramRs M m) → Dk.BytAt W a Ld bt → _) := fun W S M m h hb => new_ok W S M m h a Ld c bt hb hbd h1 h2
  have HX : Hid (∀ W S M V0 V1 V2 V3 cl, Sys W S (memRs M (.cells #[V0, V1, V2, V3, .bool cl] 58 (0, 0))) → Dk.BytAt W a Ld bt → _) := fun W S M V0 V1 V2 V3 cl h hb => dnew_ok W S M V0 V1 V2 V3 cl h a Ld c bt hb hbd h1 h2 (Rm.mem0 n)
  clear hb hbd h1 h2
  generalize Ld / 512 = N at *
  generalize Dk.dB Ld bt = D at *
  go_enter Tryz.func13, Tryz.ntmps13
  go_wp2_with fail
  refine Calls.mono HM.out ?_; rintro e w1 ⟨rfl, m1, z1, b1⟩
  obtain ⟨M, hM⟩ : ∃ M, M = w.heap.size := ⟨_, rfl⟩
  rw [← hM] at m1
  have ml : M + 4 + n ≤ w1.heap.size := m1.lt
  have s1 : Sys w1 (Rm.inRam M n) (ramRs M (Rm.mem0 n)) := ⟨fun _ => 6, fun j => by
    by_cases q : j = 6
    · subst q
      exact ⟨Rm.inRam M n, ⟨m1, fun k g => g⟩, fun k g => ⟨rfl, g, by have : k < M + 4 + n := g.2; omega⟩⟩
    · exact ⟨noB, by unfold ramRs; rw [if_neg q]; trivial, fun _ f => f.elim⟩⟩
  have P1 : Hid (Hs w w1 (two (sysR (ramRs M (Rm.mem0 n))) .none)) := by
    rw [← none_0]
    exact (Hs.none w).new rfl s1 (fun k g => ⟨by have : M ≤ k := g.1; omega, by have : k < M + 4 + n := g.2; omega⟩) (kBelow b1)
  clear m1 z1 b1 ml s1 HM
  go_wp2_with fail
  rw [← hM]
  clear hM
  refine Calls.mono (HR.out w1) ?_; rintro e w2 ⟨R, rfl, r1, r2, r3⟩
  have P2 : Hid (Hs w w2 (two (sysR (ramRs M (Rm.mem0 n))) (sysR (memRs R.r (.cells #[.slice (some ⟨R.b, 0, none⟩) (4096 * n) (4096 * n), .slice (some ⟨R.o, 0, none⟩) n n, .slice (some ⟨R.t, 0, none⟩) (64 * n) (64 * n), .slice (some ⟨R.q, 0, none⟩) (64 * n) (64 * n), .bool false] 58 (0, 0)))))) := by
    rw [← two_1 _ .none]
    refine P1.out.new rfl (T' := isB R.r) ?_ (fun k (g : k = R.r) => ⟨by rw [g]; exact r2 _ (.inl rfl), by rw [g]; exact heap_lt r1.st⟩) (kRm r3)
    refine ⟨fun _ => 6, fun j => ?_⟩
    by_cases q : j = 6
    · subst q
      exact ⟨isB R.r, ⟨rfl, r1.st⟩, fun k g => ⟨rfl, g, by rw [show k = R.r from g]; exact heap_lt r1.st⟩⟩
    · exact ⟨noB, by unfold memRs; rw [if_neg q]; trivial, fun _ f => f.elim⟩
  clear r1 r2 r3 P1 HR
  generalize Value.slice (some ⟨R.b, 0, none⟩) (4096 * n) (4096 * n) = V0 at P2
  generalize Value.slice (some ⟨R.o, 0, none⟩) n n = V1 at P2
  generalize Value.slice (some ⟨R.t, 0, none⟩) (64 * n) (64 * n) = V2 at P2
  generalize Value.slice (some ⟨R.q, 0, none⟩) (64 * n) (64 * n) = V3 at P2
  obtain ⟨mO, hmO⟩ : ∃ o : Obj, o = .cells #[V0, V1, V2, V3, .bool false] 58 (0, 0) := ⟨_, rfl⟩
  have HC : Hid (Calls Tryz.prog 10 #[.pointer (some ⟨M + 3, 0, none⟩), .slice a Ld c] w2 fun e w' => ∃ L : Loc, e = .returned (.tuple #[.pointer (some ⟨L.B, 0, none⟩), .int .i64 0]) ∧ L.M = M ∧ Hs w w' (two (busR L (bm0 N D (Rm.mem0 n)).tell) (sysR (memRs R.r mO)))) := by
    rw [← hmO] at P2
    refine (P2.out.call (E := fun e w' r' => ∃ L : Loc, e = .returned (.tuple #[.pointer (some ⟨L.B, 0, none⟩), .int .i64 0]) ∧ L.M = M ∧ r' = busR L (bm0 N D (Rm.mem0 n)).tell) 0 (fun T a => ?_)).mono ?_
    · refine (HN.out w2 T M (Rm.mem0 n) a (HB.out _ P2.out.kp)).mono ?_
      rintro e w' ⟨B, q, L, S', c1, c2, c3, c4⟩
      subst c1
      exact ⟨_, fun k => S' k ∧ k < w'.heap.size, ⟨L, q, c2, rfl⟩, Sys.lt c3, ⟨fun k g => c4.sub k g.1, c4.kp⟩, fun k g => g.2⟩
    · rintro e w' ⟨r', ⟨L, q, c2, rfl⟩, z⟩
      rw [two_0] at z
      exact ⟨L, q, c2, z⟩
  have HC2 : Hid (∀ w' r', Hs w w' (two r' (sysR (memRs R.r mO))) → Calls Tryz.prog 12 #[.pointer (some ⟨R.r, 0, none⟩), .slice a Ld c] w' fun e w2 => ∃ L' : LocR, e = .returned (.tuple #[.pointer (some ⟨L'.B, 0, none⟩), .int .i64 0]) ∧ Hs w w2 (two r' (docR L' (bm0 N D (Rm.mem0 n)).tell))) := by
    intro w' r' hh
    rw [hmO] at hh
    refine (hh.call (E := fun e w' r' => ∃ L' : LocR, e = .returned (.tuple #[.pointer (some ⟨L'.B, 0, none⟩), .int .i64 0]) ∧ r' = docR L' (bm0 N D (Rm.mem0 n)).tell) 1 (fun T a => ?_)).mono ?_
    · refine (HX.out w' T R.r V0 V1 V2 V3 false a (HB.out _ hh.kp)).mono ?_
      rintro e w2 ⟨B, q, L, S', c1, c2, c3, c4⟩
      subst c1
      exact ⟨_, fun k => S' k ∧ k < w2.heap.size, ⟨L, q, rfl⟩, Sys.lt c3, ⟨fun k g => c4.sub k g.1, c4.kp⟩, fun k g => g.2⟩
    · rintro e w2 ⟨r2, ⟨L', q, rfl⟩, z⟩
      rw [two_1] at z
      exact ⟨L', q, z⟩
  clear P2 HN HX HB hmO
  go_wp2_with fail
  refine Calls.mono HC.out ?_; rintro e w3 ⟨L, rfl, eM, p3⟩
  have HC3 : Hid _ := HC2.out _ _ p3
  clear p3 HC HC2
  go_wp2_with fail
  refine Calls.mono HC3.out ?_; rintro e w4 ⟨L', rfl, p4⟩
  have HZ : Hid (BothP w (bm0 N D (Rm.mem0 n)).tell (bm0 N D (Rm.mem0 n)).tell (.returned (.tuple #[.pointer (some ⟨L.B, 0, none⟩), .pointer (some ⟨L'.B, 0, none⟩), .pointer (some ⟨M + 3, 0, none⟩)])) w4) := ⟨L, L', by rw [eM], p4⟩
  clear p4 HC3 eM
  go_wp2
  refine bodyPost_ret (results_tmp3 rfl _ _ _) rfl ?_
  exact HZ.out
end Go.Proofs.YtclejmdmbanedaaGreat.Bs
namespace Go.Proofs.YtclejmdmbanedaaGreat.Bs
open Go.ChangeShapes Go.WideShapes Go.ChangeAt Go.RowKit
open Go.Proofs.YtclejmdmbanedaaGreat.Ut (Kp heap_lt heap_kept heap_set heap_new noB isB kpB)
set_option linter.unusedVariables false
set_option maxRecDepth 20000
/-- Bytes that lie aside. -/
def bytR (v : Value) (l : List Int) : Res := ⟨fun w S => Ut.OwnB w v l ∧ ∀ g, v.ownBlock = some g → S g, fun h k d => ⟨h.1.kept k (fun g e => d g (h.2 g e)), h.2⟩⟩
def intR (v : Value) (l : List Int) : Res := ⟨fun w S => Dk.OwnI w v l ∧ ∀ g, v.ownBlock = some g → S g, fun h k d => ⟨h.1.kept (dkK k) (fun g e => d g (h.2 g e)), h.2⟩⟩
section
variable {W w : World} {Rs : Nat → Res} {i : Nat} {L : Loc} {x : Bm}
theorem Hs.at (h : Hs W w Rs) (j : Nat) : ∃ T, (Rs j).R w T := by
  obtain ⟨S, q, b⟩ := h.ex
  obtain ⟨T, a, c⟩ := q.at j
  exact ⟨T, a⟩
theorem Hs.bus' {f : FuncId} {args : Array Value} {E : Ending → Prop} {x' : Bm} (h : Hs W w (updR Rs i (busR L x))) (hc : ∀ S, BW w S L x → Calls Tryz.prog f args w fun e w' => E e ∧ BNx w S L x' w') : Calls Tryz.prog f args w fun e w' => E e ∧ Hs W w' (updR Rs i (busR L x')) := by
  have := h.bus i upd_self hc
  rw [upd_twice] at this
  exact this
theorem Hs.bw (h : Hs W w (updR Rs i (busR L x))) : ∃ S, BW w S L x := h.busAt upd_self
theorem rOut (h : Hs W w (updR Rs i (busR L x))) (k : x.Ok) (p s v : Int) (p0 : 0 ≤ p) (p1 : p < 65536) (v0 : 0 ≤ v) (v1 : v < 4294967296) (hw : x.wk + 16 < 9007199254740) : Calls Tryz.prog 22 #[.pointer (some ⟨L.B, 0, none⟩), .int .u16 p, .int .i64 s, .int .u32 v] w fun e w' => e = .returned (.int .i64 (erS s)) ∧ Hs W w' (updR Rs i (busR L (x.out p s v))) := h.bus' fun S b => out_ok b k p s v p0 p1 v0 v1 hw
theorem rIn (h : Hs W w (updR Rs i (busR L x))) (k : x.Ok) (p s : Int) (p0 : 0 ≤ p) (p1 : p < 65536) : Calls Tryz.prog 24 #[.pointer (some ⟨L.B, 0, none⟩), .int .u16 p, .int .i64 s] w fun e w' => e = .returned (.tuple #[.int .u32 (x.innV p s), .int .i64 (erS s)]) ∧ Hs W w' (updR Rs i (busR L (x.inn p s))) := h.bus' fun S b => in_ok b k p s p0 p1
theorem rTick (h : Hs W w (updR Rs i (busR L x))) (k : x.Ok) (n : Int) (n1 : n ≤ 9223372036854775807) : Calls Tryz.prog 23 #[.pointer (some ⟨L.B, 0, none⟩), .int .i64 n] w fun e w' => e = .returned (.tuple #[]) ∧ Hs W w' (updR Rs i (busR L (x.tickN n))) := h.bus' fun S b => tick_ok b k n n1
theorem rAck (h : Hs W w (updR Rs i (busR L x))) (k : x.Ok) : Calls Tryz.prog 25 #[.pointer (some ⟨L.B, 0, none⟩)] w fun e w' => e = .returned (.int .i64 x.p.vec) ∧ Hs W w' (updR Rs i (busR L x.ack)) := h.bus' fun S b => ack_ok b k
theorem rPend (h : Hs W w (updR Rs i (busR L x))) (k : x.Ok) : Calls Tryz.prog 15 #[.pointer (some ⟨L.B, 0, none⟩)] w fun e w' => e = .returned (.bool (x.p.a.next != -1)) ∧ Hs W w' (updR Rs i (busR L x)) := by
  obtain ⟨S, b⟩ := h.bw
  exact (pend_ok b k).mono fun e w' ⟨q, r⟩ => ⟨q, h.keep r⟩
theorem rNow (h : Hs W w (updR Rs i (busR L x))) : Calls Tryz.prog 17 #[.pointer (some ⟨L.B, 0, none⟩)] w fun e w' => e = .returned (.int .u64 x.now) ∧ w' = w := by
  obtain ⟨S, b⟩ := h.bw
  exact now_ok b
theorem rSent (h : Hs W w (updR Rs i (busR L x))) {j : Nat} (hj : Rs j = .none) (ij : i ≠ j) : Calls Tryz.prog 26 #[.pointer (some ⟨L.B, 0, none⟩)] w fun e w' => ∃ p c, e = .returned (.slice p x.u.sent.length c) ∧ Hs W w' (updR (updR Rs i (busR L { x with u := x.u.hush })) j (bytR (.slice p x.u.sent.length c) x.u.sent)) := by
  obtain ⟨S, q, b⟩ := h.ex
  obtain ⟨T, a1, a2, a3⟩ := q.split i j ij (by rw [upd_other (Ne.symm ij)]; exact hj)
  rw [upd_self] at a1
  refine (sent_ok a1).mono fun e w' ⟨p, c, e1, S', d1, d2, d3, d4⟩ => ⟨p, c, e1, ?_⟩
  obtain ⟨S2, f1, f2⟩ := a3 (busR L { x with u := x.u.hush }) (bytR (.slice p x.u.sent.length c) x.u.sent) w' (fun k => S' k ∧ k < w'.heap.size) (fun k => (Value.slice p x.u.sent.length c).ownBlock = some k) d1.lt ⟨d3, fun g e => e⟩ ⟨fun k g => d2.sub k g.1, d2.kp⟩ (fun k g => g.2) (fun k g => ⟨.inl (d4 k g).1, by obtain ⟨cur, hc⟩ := d3.lt g; exact heap_lt hc, fun f => (d4 k g).2 f.1⟩)
  rw [upd_twice] at f1
  exact .mk' h.kp b f1 f2
theorem rWritten (h : Hs W w (updR Rs i (busR L x))) {j : Nat} (hj : Rs j = .none) (ij : i ≠ j) : Calls Tryz.prog 29 #[.pointer (some ⟨L.B, 0, none⟩)] w fun e w' => ∃ p c, e = .returned (.slice p x.d.log.length c) ∧ Hs W w' (updR (updR Rs i (busR L { x with d := x.d.told })) j (intR (.slice p x.d.log.length c) x.d.log)) := by
  obtain ⟨S, q, b⟩ := h.ex
  obtain ⟨T, a1, a2, a3⟩ := q.split i j ij (by rw [upd_other (Ne.symm ij)]; exact hj)
  rw [upd_self] at a1
  refine (written_ok a1).mono fun e w' ⟨p, c, e1, S', d1, d2, d3, d4⟩ => ⟨p, c, e1, ?_⟩
  obtain ⟨S2, f1, f2⟩ := a3 (busR L { x with d := x.d.told }) (intR (.slice p x.d.log.length c) x.d.log) w' (fun k => S' k ∧ k < w'.heap.size) (fun k => (Value.slice p x.d.log.length c).ownBlock = some k) d1.lt ⟨d3, fun g e => e⟩ ⟨fun k g => d2.sub k g.1, d2.kp⟩ (fun k g => g.2) (fun k g => ⟨.inl (d4 k g).1, by obtain ⟨cur, hc⟩ := d3.lt g; exact heap_lt (w := w') hc, fun f => (d4 k g).2 f.1⟩)
  rw [upd_twice] at f1
  exact .mk' h.kp b f1 f2
theorem Hs.str {v : Value} {l : List Int} (h : Hs W w (updR Rs i (bytR v l))) : (convert 22 9 v).run Tryz.prog w = .ok (.string (strOfNums l)) w := by
  obtain ⟨T, a⟩ := h.at i
  rw [upd_self] at a
  exact a.1.str
theorem upd_comm (Rs : Nat → Res) {i j : Nat} (ij : i ≠ j) (r q : Res) : updR (updR Rs i r) j q = updR (updR Rs j q) i r := by
  funext k
  unfold updR
  by_cases a : k = j
  · rw [if_pos a, if_pos a, if_neg (by omega)]
  · rw [if_neg a, if_neg a]
end
end Go.Proofs.YtclejmdmbanedaaGreat.Bs
namespace Go.Proofs.YtclejmdmbanedaaGreat.Bs
open Go.ChangeShapes Go.WideShapes Go.ChangeAt Go.RowKit
open Go.Proofs.YtclejmdmbanedaaGreat.Ut (Kp heap_lt heap_kept heap_set heap_new noB isB kpB)
set_option linter.unusedVariables false
set_option maxRecDepth 20000
section
variable (n : Nat) (D : Nat → Int) (m : Rm.Mem)
def a0 : Bm := (bm0 n D m).tell
def a1 : Bm := (a0 n D m).out 1016 1 65
def a2 : Bm := { a1 n D m with u := (a1 n D m).u.hush }
def a3 : Bm := (a2 n D m).inn 4660 2
def a4 : Bm := (a3 n D m).out 32 1 17
def a5 : Bm := (a4 n D m).out 33 1 8
def a6 : Bm := (a5 n D m).out 33 1 4
def a7 : Bm := (a6 n D m).out 33 1 1
def a8 : Bm := (a7 n D m).out 67 1 16
def a9 : Bm := (a8 n D m).out 64 1 5
def a10 : Bm := (a9 n D m).tickN 5
theorem a_sent : (a1 n D m).u.sent = [65] := by kernel_rfl
theorem a_in : (a2 n D m).innV 4660 2 = 65535 := by kernel_rfl
theorem a_no : ((a9 n D m).p.a.next != -1) = false := by kernel_rfl
theorem a_yes : ((a10 n D m).p.a.next != -1) = true := by kernel_rfl
theorem a_vec : (a10 n D m).p.vec = 8 := by kernel_rfl
theorem a_now : (a10 n D m).ack.now = 5 := by kernel_rfl
end
structure AOk (x : Bm) : Prop where
  ok : x.Ok
  wk : x.wk ≤ 1000
theorem AOk.out {x : Bm} (h : AOk x) (hw : x.wk + 16 ≤ 1000) (p s v : Int) : AOk (x.out p s v) := ⟨h.ok.out p s v, by have := out_wk h.ok p s v; omega⟩
set_option maxHeartbeats 2000000 in
theorem awake_ok (w : World) : Calls Tryz.prog 8 #[] w fun e w' => e = .returned (.bool true) ∧ Kp noB w w' := by
  have HD : Hid _ := Dk.lDisk_any w 1 0 (by decide) (by decide) ⟨by decide, by decide⟩
  have e1 : Dk.secN 1 = 1 := by kernel_rfl
  rw [e1] at HD
  have HB : Hid (∀ W, Dk.RowB W w.heap.size 512 (Dk.dskS 0) → _) := fun W r => both_ok W 1 (by decide) (by decide) (some ⟨w.heap.size, 0, none⟩) 512 512 (Dk.dskS 0) r.at (fun j _ => Dk.dskS_byt 0 j) (by decide) (by decide)
  have okd : (Dk.id0 (512 / 512) (Dk.dB 512 (Dk.dskS 0))).Ok := Dk.idN_ok (by decide) (fun j _ => Dk.dskS_byt 0 j)
  have k0 : (a0 (512 / 512) (Dk.dB 512 (Dk.dskS 0)) (Rm.mem0 1)).Ok := (bm0_ok okd).tell
  have w0 : (a0 (512 / 512) (Dk.dB 512 (Dk.dskS 0)) (Rm.mem0 1)).wk = 0 := rfl
  unfold BothP at HB
  rw [show (bm0 (512 / 512) (Dk.dB 512 (Dk.dskS 0)) (Rm.mem0 1)).tell = a0 (512 / 512) (Dk.dB 512 (Dk.dskS 0)) (Rm.mem0 1) from rfl] at HB
  clear okd
  generalize (512 / 512 : Nat) = n at *
  generalize Dk.dB 512 (Dk.dskS 0) = D at *
  generalize Rm.mem0 1 = m at *
  have A0 : AOk (a0 n D m) := ⟨k0, by omega⟩
  have A1 : AOk (a1 n D m) := A0.out (by omega) _ _ _
  have b1 : (a1 n D m).wk ≤ 16 := by have := out_wk k0 1016 1 65; show (Bm.out _ _ _ _).wk ≤ 16; omega
  have k2 : (a2 n D m).Ok := { A1.ok with u := A1.ok.u.hush }
  have b2 : (a2 n D m).wk ≤ 16 := by
    show ([] : List Int).length + _ ≤ 16
    have : (a1 n D m).u.sent.length + (a1 n D m).d.work ≤ 16 := b1
    show 0 + (a1 n D m).d.work ≤ 16
    omega
  have k3 : (a3 n D m).Ok := k2.inn _ _
  have b3 : (a3 n D m).wk ≤ 16 := Nat.le_trans (inn_wk _ _ _) b2
  have k4 : (a4 n D m).Ok := k3.out _ _ _
  have b4 : (a4 n D m).wk ≤ 32 := by have := out_wk k3 32 1 17; show (Bm.out _ _ _ _).wk ≤ 32; omega
  have k5 : (a5 n D m).Ok := k4.out _ _ _
  have b5 : (a5 n D m).wk ≤ 48 := by have := out_wk k4 33 1 8; show (Bm.out _ _ _ _).wk ≤ 48; omega
  have k6 : (a6 n D m).Ok := k5.out _ _ _
  have b6 : (a6 n D m).wk ≤ 64 := by have := out_wk k5 33 1 4; show (Bm.out _ _ _ _).wk ≤ 64; omega
  have k7 : (a7 n D m).Ok := k6.out _ _ _
  have b7 : (a7 n D m).wk ≤ 80 := by have := out_wk k6 33 1 1; show (Bm.out _ _ _ _).wk ≤ 80; omega
  have k8 : (a8 n D m).Ok := k7.out _ _ _
  have b8 : (a8 n D m).wk ≤ 96 := by have := out_wk k7 67 1 16; show (Bm.out _ _ _ _).wk ≤ 96; omega
  have k9 : (a9 n D m).Ok := k8.out _ _ _
  have k10 : (a10 n D m).Ok := k9.tickN _
  have er1 : erS 1 = 0 := rfl
  have er2 : erS 2 = 0 := rfl
  have H1 : Hid (∀ w1 W L Rs, Hs w1 W (updR Rs 0 (busR L (a0 n D m))) → Calls Tryz.prog 22 #[.pointer (some ⟨L.B, 0, none⟩), .int .u16 1016, .int .i64 1, .int .u32 65] W fun e w' => e = .returned (.int .i64 0) ∧ Hs w1 w' (updR Rs 0 (busR L (a1 n D m)))) := fun w1 W L Rs h => rOut h k0 1016 1 65 (by decide) (by decide) (by decide) (by decide) (by omega)
  have H4 : Hid (∀ w1 W L Rs, Hs w1 W (updR Rs 0 (busR L (a3 n D m))) → Calls Tryz.prog 22 #[.pointer (some ⟨L.B, 0, none⟩), .int .u16 32, .int .i64 1, .int .u32 17] W fun e w' => e = .returned (.int .i64 0) ∧ Hs w1 w' (updR Rs 0 (busR L (a4 n D m)))) := fun w1 W L Rs h => rOut h k3 32 1 17 (by decide) (by decide) (by decide) (by decide) (by omega)
  have H5 : Hid (∀ w1 W L Rs, Hs w1 W (updR Rs 0 (busR L (a4 n D m))) → Calls Tryz.prog 22 #[.pointer (some ⟨L.B, 0, none⟩), .int .u16 33, .int .i64 1, .int .u32 8] W fun e w' => e = .returned (.int .i64 0) ∧ Hs w1 w' (updR Rs 0 (busR L (a5 n D m)))) := fun w1 W L Rs h => rOut h k4 33 1 8 (by decide) (by decide) (by decide) (by decide) (by omega)
  have H6 : Hid (∀ w1 W L Rs, Hs w1 W (updR Rs 0 (busR L (a5 n D m))) → Calls Tryz.prog 22 #[.pointer (some ⟨L.B, 0, none⟩), .int .u16 33, .int .i64 1, .int .u32 4] W fun e w' => e = .returned (.int .i64 0) ∧ Hs w1 w' (updR Rs 0 (busR L (a6 n D m)))) := fun w1 W L Rs h => rOut h k5 33 1 4 (by decide) (by decide) (by decide) (by decide) (by omega)
  have H7 : Hid (∀ w1 W L Rs, Hs w1 W (updR Rs 0 (busR L (a6 n D m))) → Calls Tryz.prog 22 #[.pointer (some ⟨L.B, 0, none⟩), .int .u16 33, .int .i64 1, .int .u32 1] W fun e w' => e = .returned (.int .i64 0) ∧ Hs w1 w' (updR Rs 0 (busR L (a7 n D m)))) := fun w1 W L Rs h => rOut h k6 33 1 1 (by decide) (by decide) (by decide) (by decide) (by omega)
  have H8 : Hid (∀ w1 W L Rs, Hs w1 W (updR Rs 0 (busR L (a7 n D m))) → Calls Tryz.prog 22 #[.pointer (some ⟨L.B, 0, none⟩), .int .u16 67, .int .i64 1, .int .u32 16] W fun e w' => e = .returned (.int .i64 0) ∧ Hs w1 w' (updR Rs 0 (busR L (a8 n D m)))) := fun w1 W L Rs h => rOut h k7 67 1 16 (by decide) (by decide) (by decide) (by decide) (by omega)
  have H9 : Hid (∀ w1 W L Rs, Hs w1 W (updR Rs 0 (busR L (a8 n D m))) → Calls Tryz.prog 22 #[.pointer (some ⟨L.B, 0, none⟩), .int .u16 64, .int .i64 1, .int .u32 5] W fun e w' => e = .returned (.int .i64 0) ∧ Hs w1 w' (updR Rs 0 (busR L (a9 n D m)))) := fun w1 W L Rs h => rOut h k8 64 1 5 (by decide) (by decide) (by decide) (by decide) (by omega)
  have HS : Hid (∀ w1 W L Rs, Rs 2 = Res.none → Hs w1 W (updR Rs 0 (busR L (a1 n D m))) → Calls Tryz.prog 26 #[.pointer (some ⟨L.B, 0, none⟩)] W fun e w' => ∃ p c, e = .returned (.slice p 1 c) ∧ Hs w1 w' (updR (updR Rs 2 (bytR (.slice p 1 c) [65])) 0 (busR L (a2 n D m)))) := fun w1 W L Rs hr h => by
    have := rSent h (j := 2) hr (by decide)
    rw [a_sent] at this
    exact this.mono fun e w' ⟨p, c, q, r⟩ => ⟨p, c, q, by rw [upd_comm _ (by decide)] at r; exact r⟩
  have HI : Hid (∀ w1 W L Rs, Hs w1 W (updR Rs 0 (busR L (a2 n D m))) → Calls Tryz.prog 24 #[.pointer (some ⟨L.B, 0, none⟩), .int .u16 4660, .int .i64 2] W fun e w' => e = .returned (.tuple #[.int .u32 65535, .int .i64 0]) ∧ Hs w1 w' (updR Rs 0 (busR L (a3 n D m)))) := fun w1 W L Rs h => by
    have := rIn h k2 4660 2 (by decide) (by decide)
    rw [a_in] at this
    exact this
  have HP : Hid (∀ w1 W L Rs, Hs w1 W (updR Rs 0 (busR L (a9 n D m))) → Calls Tryz.prog 15 #[.pointer (some ⟨L.B, 0, none⟩)] W fun e w' => e = .returned (.bool false) ∧ Hs w1 w' (updR Rs 0 (busR L (a9 n D m)))) := fun w1 W L Rs h => by
    have := rPend h k9
    rw [a_no] at this
    exact this
  have HT : Hid (∀ w1 W L Rs, Hs w1 W (updR Rs 0 (busR L (a9 n D m))) → Calls Tryz.prog 23 #[.pointer (some ⟨L.B, 0, none⟩), .int .i64 5] W fun e w' => e = .returned (.tuple #[]) ∧ Hs w1 w' (updR Rs 0 (busR L (a10 n D m)))) := fun w1 W L Rs h => rTick h k9 5 (by decide)
  have HQ : Hid (∀ w1 W L Rs, Hs w1 W (updR Rs 0 (busR L (a10 n D m))) → Calls Tryz.prog 15 #[.pointer (some ⟨L.B, 0, none⟩)] W fun e w' => e = .returned (.bool true) ∧ Hs w1 w' (updR Rs 0 (busR L (a10 n D m)))) := fun w1 W L Rs h => by
    have := rPend h k10
    rw [a_yes] at this
    exact this
  have HK : Hid (∀ w1 W L Rs, Hs w1 W (updR Rs 0 (busR L (a10 n D m))) → Calls Tryz.prog 25 #[.pointer (some ⟨L.B, 0, none⟩)] W fun e w' => e = .returned (.int .i64 8) ∧ Hs w1 w' (updR Rs 0 (busR L (a10 n D m).ack))) := fun w1 W L Rs h => by
    have := rAck h k10
    rw [a_vec] at this
    exact this
  have HW : Hid (∀ w1 W L Rs, Hs w1 W (updR Rs 0 (busR L (a10 n D m).ack)) → Calls Tryz.prog 17 #[.pointer (some ⟨L.B, 0, none⟩)] W fun e w' => e = .returned (.int .u64 5) ∧ w' = W) := fun w1 W L Rs h => by
    have := rNow h
    rw [a_now] at this
    exact this
  clear k0 w0 A0 A1 b1 k2 b2 k3 b3 k4 b4 k5 b5 k6 b6 k7 b7 k8 b8 k9 k10 er1 er2 e1
  go_enter Tryz.func8, Tryz.ntmps8
  go_wp2_with fail
  refine Calls.mono HD.out ?_; rintro e w1 ⟨rfl, r1, q1⟩
  have Q1 : Hid (Kp noB w w1) := kDk q1
  have HB1 : Hid _ := HB.out _ r1
  clear r1 q1 HD HB
  go_wp2_with fail
  refine Calls.mono HB1.out ?_; rintro e w2 ⟨L, L', rfl, p2⟩
  have P2 : Hid (Hs w1 w2 (updR (two .none (docR L' (a0 n D m))) 0 (busR L (a0 n D m)))) := by rw [two_0]; exact p2
  clear p2 HB1
  have hR2 : Hid ((two .none (docR L' (a0 n D m))) 2 = Res.none) := rfl
  generalize two .none (docR L' (a0 n D m)) = Rs at *
  go_wp2_with fail
  refine Calls.mono (H1.out _ _ _ _ P2.out) ?_; rintro e w3 ⟨rfl, p3⟩
  have P3 : Hid _ := p3
  clear p3 P2 H1
  go_wp2_with fail
  refine Calls.mono (HS.out _ _ _ _ hR2.out P3.out) ?_; rintro e w4 ⟨p, c, rfl, p4⟩
  have P4 : Hid _ := p4
  clear p4 P3 HS hR2
  go_wp2_with fail
  refine Calls.mono (HI.out _ _ _ _ P4.out) ?_; rintro e w5 ⟨rfl, p5⟩
  have P5 : Hid _ := p5
  clear p5 P4 HI
  go_wp2_with fail
  refine Calls.mono (H4.out _ _ _ _ P5.out) ?_; rintro e w6 ⟨rfl, p6⟩
  have P6 : Hid _ := p6
  clear p6 P5 H4
  go_wp2_with fail
  refine Calls.mono (H5.out _ _ _ _ P6.out) ?_; rintro e w7 ⟨rfl, p7⟩
  have P7 : Hid _ := p7
  clear p7 P6 H5
  go_wp2_with fail
  refine Calls.mono (H6.out _ _ _ _ P7.out) ?_; rintro e w8 ⟨rfl, p8⟩
  have P8 : Hid _ := p8
  clear p8 P7 H6
  go_wp2_with fail
  refine Calls.mono (H7.out _ _ _ _ P8.out) ?_; rintro e w9 ⟨rfl, p9⟩
  have P9 : Hid _ := p9
  clear p9 P8 H7
  go_wp2_with fail
  refine Calls.mono (H8.out _ _ _ _ P9.out) ?_; rintro e w10 ⟨rfl, p10⟩
  have P10 : Hid _ := p10
  clear p10 P9 H8
  go_wp2_with fail
  refine Calls.mono (H9.out _ _ _ _ P10.out) ?_; rintro e w11 ⟨rfl, p11⟩
  have P11 : Hid _ := p11
  clear p11 P10 H9
  go_wp2_with fail
  refine Calls.mono (HP.out _ _ _ _ P11.out) ?_; rintro e w12 ⟨rfl, p12⟩
  have P12 : Hid _ := p12
  clear p12 P11 HP
  go_wp2_with fail
  refine Calls.mono (HT.out _ _ _ _ P12.out) ?_; rintro e w13 ⟨rfl, p13⟩
  have P13 : Hid _ := p13
  clear p13 P12 HT
  have hs := (show Hs w1 w13 (updR (updR Rs 0 (busR L (a10 n D m))) 2 (bytR (.slice p 1 c) [65])) by rw [upd_comm _ (by decide)]; exact P13.out).str
  rw [show strOfNums [65] = ⟨#[65]⟩ from rfl] at hs
  go_wp2_with fail
  refine Calls.mono (HQ.out _ _ _ _ P13.out) ?_; rintro e w14 ⟨rfl, p14⟩
  have P14 : Hid _ := p14
  clear p14 P13 HQ hs
  go_wp2_with fail
  refine Calls.mono (HK.out _ _ _ _ P14.out) ?_; rintro e w15 ⟨rfl, p15⟩
  have P15 : Hid _ := p15
  clear p15 P14 HK
  go_wp2_with fail
  refine Calls.mono (HW.out _ _ _ _ P15.out) ?_; rintro e w16 ⟨rfl, hz⟩; replace hz := hz.symm; subst hz
  have HZ : Hid (Kp noB w w15) := Q1.out.trans P15.out.kp
  clear P15 HW Q1
  go_wp2
  go_ret
  exact ⟨rfl, HZ.out⟩
end Go.Proofs.YtclejmdmbanedaaGreat.Bs
namespace Go.Proofs.YtclejmdmbanedaaGreat.Bs
open Go.ChangeShapes Go.WideShapes Go.ChangeAt Go.RowKit
open Go.Proofs.YtclejmdmbanedaaGreat.Ut (Kp heap_lt heap_kept heap_set heap_new noB isB kpB)
set_option linter.unusedVariables false
set_option maxRecDepth 20000
theorem op_size : Tryz.prog.cellsOf 44 = 4 := by kernel_rfl
theorem one_int : Tryz.prog.cellsOf 3 = 1 := by kernel_rfl
theorem one_u32 : Tryz.prog.cellsOf 42 = 1 := by kernel_rfl
theorem one_u16 : Tryz.prog.cellsOf 41 = 1 := by kernel_rfl
theorem list_four {α : Type} : ∀ (l : List α), l.length = 4 → ∃ a b c d, l = [a, b, c, d]
  | [a, b, c, d], _ => ⟨a, b, c, d, rfl⟩
theorem op_cells {H : Type} {enc : TypeId × Value → H} {w : World} {base : Nat} {sp : Nat → Bool} {held : Bool} {fuel : Nat} {cs : List Value} {x : DataW H × List MemPlace} (h : DataW.trod enc Tryz.prog w base sp held fuel 44 cs = some x) :
    ∃ (kd pt sz v : Int), cs = [.int .i64 kd, .int .u16 pt, .int .i64 sz, .int .u32 v] ∧ (Lit.int .i64 kd).wf = true ∧ (Lit.int .u16 pt).wf = true ∧ (Lit.int .i64 sz).wf = true ∧ (Lit.int .u32 v).wf = true := by
  cases fuel with
  | zero => simp [DataW.trod] at h
  | succ f =>
    rw [DataW.trod_step] at h
    unfold DataW.trodStep at h
    simp only [Tryz.underlying44] at h
    split at h
    · rename_i hl
      rw [op_size] at hl
      obtain ⟨c0, c1, c2, c3, rfl⟩ := list_four cs hl
      simp only [Option.map_eq_some_iff] at h
      obtain ⟨xs, hx, e1⟩ := h
      simp only [List.mapM_cons, List.mapM_nil, bind, Option.bind_eq_some_iff, pure, Option.some.injEq, one_int, one_u32, one_u16, List.drop_zero, List.drop_succ_cons, List.take_succ_cons, List.take_zero] at hx
      obtain ⟨y0, h0, _, ⟨y1, h1, _, ⟨y2, h2, _, ⟨y3, h3, _, rfl, rfl⟩, rfl⟩, rfl⟩, rfl⟩ := hx
      obtain ⟨kd, ea, rfl, wk⟩ := DataW.trod_int Tryz.underlying3 h0
      obtain ⟨pt, eb, rfl, wp⟩ := DataW.trod_int Tryz.underlying41 h1
      obtain ⟨sz, ec, rfl, ws⟩ := DataW.trod_int Tryz.underlying3 h2
      obtain ⟨v, ed, rfl, wv⟩ := DataW.trod_int Tryz.underlying42 h3
      simp at ea eb ec ed
      subst ea; subst eb; subst ec; subst ed
      exact ⟨kd, pt, sz, v, rfl, wk, wp, ws, wv⟩
    · cases h
/-- One call of a list of calls. -/
def OpIn (w : World) (x : Option Addr) (i : Nat) : Prop :=
  ∃ (blk off : Nat) (kd pt sz v : Int), x = some ⟨blk, off, none⟩ ∧ blk < w.heap.size ∧ (w.cell? ⟨blk, off + i * 4, none⟩ = some (.int .i64 kd) ∧ w.cell? ⟨blk, off + i * 4 + 1, none⟩ = some (.int .u16 pt) ∧ w.cell? ⟨blk, off + i * 4 + 2, none⟩ = some (.int .i64 sz) ∧ w.cell? ⟨blk, off + i * 4 + 3, none⟩ = some (.int .u32 v)) ∧
    (-9223372036854775808 ≤ kd ∧ kd ≤ 9223372036854775807) ∧ (0 ≤ pt ∧ pt < 65536) ∧ (-9223372036854775808 ≤ sz ∧ sz ≤ 9223372036854775807) ∧ (0 ≤ v ∧ v < 4294967296)
theorem cell_keep {w w' : World} {b k : Nat} {v : Value} (h : w.cell? ⟨b, k, none⟩ = some v) (q : Kp noB w w') : w'.cell? ⟨b, k, none⟩ = some v := Dk.cell_kept h (dkK q) id
theorem OpIn.kp {w w' : World} {x : Option Addr} {i : Nat} (h : OpIn w x i) (k : Kp noB w w') : OpIn w' x i := by
  obtain ⟨blk, off, kd, pt, sz, v, h1, h2, ⟨c0, c1, c2, c3⟩, h3⟩ := h
  exact ⟨blk, off, kd, pt, sz, v, h1, Nat.lt_of_lt_of_le h2 k.size, ⟨cell_keep c0 k, cell_keep c1 k, cell_keep c2 k, cell_keep c3 k⟩, h3⟩
theorem ops_in {H : Type} {enc : TypeId × Value → H} {w : World} {held : Bool} {fuel : Nat} {a : Option Addr} {len cap : Nat} {x : DataW H × List MemPlace} (h : DataW.trod enc Tryz.prog w 0 (fun _ => true) held fuel 23 [.slice a len cap] = some x)
    (hz : ∀ elems spare, x.1 = .slice elems spare → (elems.length + spare.length) * Tryz.prog.bytesOf 44 ≤ reachBytes) :
    len ≤ 4398046510976 ∧ ∀ i, i < len → OpIn w a i := by
  rcases Go.Deep.open_slice Tryz.underlying23 h with ⟨e, _⟩ | ⟨a', len', cap', m, n, D, Pl, e, hb0, hlc, hm, hmm, ex, hel⟩
  · simp at e
    obtain ⟨rfl, rfl, rfl⟩ := e
    exact ⟨by omega, fun i hi => absurd hi (by omega)⟩
  · simp at e
    obtain ⟨rfl, rfl, rfl⟩ := e
    have hm' : m = cap := by simpa using hmm
    have hb : Tryz.prog.bytesOf 44 = 32 := by kernel_rfl
    have hr : reachBytes = 140737488351232 := rfl
    have hs := hz _ _ (by rw [ex])
    rw [hb, hr, List.length_map, List.length_range] at hs
    refine ⟨by omega, ?_⟩
    intro i hi
    obtain ⟨cs', hcs, ht⟩ := hel i (by omega)
    obtain ⟨kd, pt, sz, v, rfl, wk, wp, ws, wv⟩ := op_cells ht
    rw [op_size] at hcs
    obtain ⟨blk, off, sp⟩ := a'
    have hsp : sp = none := by
      obtain ⟨cs0, hc0, _⟩ := hel 0 (by omega)
      exact Dk.spot_of2 hc0 (by rw [op_size]; decide)
    subst hsp
    rw [Dk.add_plain] at hcs
    obtain ⟨_, _, hc⟩ := World.cells?_some hcs
    have c0 : w.cell? ⟨blk, off + i * 4, none⟩ = some (.int .i64 kd) := hc 0 (by omega)
    have c1 : w.cell? ⟨blk, off + i * 4 + 1, none⟩ = some (.int .u16 pt) := hc 1 (by omega)
    have c2 : w.cell? ⟨blk, off + i * 4 + 2, none⟩ = some (.int .i64 sz) := hc 2 (by omega)
    have c3 : w.cell? ⟨blk, off + i * 4 + 3, none⟩ = some (.int .u32 v) := hc 3 (by omega)
    have bk := bounds_i64 wk
    have bp := bounds_u16 wp
    have bs := bounds_i64 ws
    have bv := bounds_u32 wv
    exact ⟨blk, off, kd, pt, sz, v, rfl, Dk.cell_below c0, ⟨c0, c1, c2, c3⟩, ⟨bk.1, bk.2⟩, ⟨bp.1, by omega⟩, ⟨bs.1, bs.2⟩, ⟨bv.1, by omega⟩⟩
/-- Numbers that lie somewhere. -/
def IntsIn (w : World) (a : Option Addr) (L : Nat) : Prop := ∀ i, i < L → ∃ (blk off : Nat) (z : Int), a = some ⟨blk, off, none⟩ ∧ blk < w.heap.size ∧ w.cell? ⟨blk, off + i, none⟩ = some (.int .i64 z) ∧ -9223372036854775808 ≤ z ∧ z ≤ 9223372036854775807
theorem IntsIn.kp {w w' : World} {a : Option Addr} {L : Nat} (h : IntsIn w a L) (k : Kp noB w w') : IntsIn w' a L := fun i hi => by
  obtain ⟨blk, off, z, h1, h2, h3, h4⟩ := h i hi
  exact ⟨blk, off, z, h1, Nat.lt_of_lt_of_le h2 k.size, cell_keep h3 k, h4⟩
theorem ints_in {H : Type} {enc : TypeId × Value → H} {w : World} {fuel : Nat} {a : Option Addr} {len cap : Nat} {d : DataW H} {p : List MemPlace} (h : DataW.trod enc Tryz.prog w 0 (fun _ => true) true fuel 61 (Value.slice a len cap).cells.toList = some (d, p))
    (hz : ∀ elems spare, d = .slice elems spare → (elems.length + spare.length) * Tryz.prog.bytesOf 3 ≤ reachBytes) : len ≤ 17592186043904 ∧ IntsIn w a len := by
  rcases open_ints Tryz.underlying61 Tryz.underlying3 (by kernel_rfl) h with ⟨hcs, _⟩ | ⟨y, l, c, zs, hcs, _, hl, hm, hzl, hx, hcell, hwz⟩
  · simp [Value.cells] at hcs
    obtain ⟨rfl, rfl, rfl⟩ := hcs
    exact ⟨by omega, fun j hj => absurd hj (by simp)⟩
  · simp [Value.cells] at hcs
    obtain ⟨rfl, rfl, rfl⟩ := hcs
    have hz' : zs.length = cap := by simpa using hzl
    injection hx with hd hp
    have hs := hz _ _ hd
    have hb : Tryz.prog.bytesOf 3 = 8 := by kernel_rfl
    have hr : reachBytes = 140737488351232 := rfl
    have hlen : len ≤ 17592186043904 := by
      rw [hb] at hs
      have e : (lits (H := H) .i64 (List.take len zs)).length = len := by unfold lits; rw [List.length_map, List.length_take]; omega
      rw [e] at hs
      omega
    refine ⟨hlen, fun j hj => ?_⟩
    obtain ⟨b, off, rfl, hc⟩ := ints_at hcell (by omega)
    have := hc j (by omega)
    have hj' : j < zs.length := by omega
    have e : zs.getD j 0 ∈ zs := by rw [List.getD_eq_getElem?_getD, List.getElem?_eq_getElem hj']; exact List.getElem_mem hj'
    have b8 := bounds_i64 (hwz _ e)
    exact ⟨b, off, _, rfl, Dk.cell_below this, this, b8.1, b8.2⟩
theorem kpE {w w' : World} (h : Kp noB w w') : Below w.heap.size w w' := h.below (Nat.le_refl _) (fun k f => f.elim)
end Go.Proofs.YtclejmdmbanedaaGreat.Bs
