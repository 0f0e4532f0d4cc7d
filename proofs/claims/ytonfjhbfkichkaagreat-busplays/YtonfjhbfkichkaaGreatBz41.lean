/- The bus and its devices: BsNew, BrNew, BrPort, BrOut, BrIn, BsSizes. -/
import Derived.Test.YtonfjhbfkichkaaGreatBz40
import Derived.Test.YtonfjhbfkichkaaGreatBz04
import Derived.Test.YtonfjhbfkichkaaGreatBz36
import Derived.Test.YtonfjhbfkichkaaGreatBz09
import Derived.Test.YtonfjhbfkichkaaGreatBz39
namespace Go.Proofs.YtonfjhbfkichkaaGreat.Bs
open Go.ChangeShapes Go.WideShapes Go.ChangeAt Go.RowKit
open Go.Proofs.YtonfjhbfkichkaaGreat.Ut (Kp heap_lt heap_kept heap_set heap_new noB isB kpB)
set_option linter.unusedVariables false
set_option maxRecDepth 20000
def memO (m : Rm.Mem) : Rm.Mem := { m with closed := false }
def bm0 (n : Nat) (D : Nat → Int) (m : Rm.Mem) : Bm := ⟨Pc.m00, Pt.f00, Ut.u0, Dk.id0 n D, m, false, 0⟩
theorem byt0 : Ut.By 0 := ⟨by decide, by decide⟩
theorem u0_ok : Ut.u0.Ok := ⟨byt0, byt0, ⟨by decide, by decide⟩, byt0, byt0, byt0, (fun b hb => nomatch hb), by decide, (fun b hb => nomatch hb)⟩
theorem bm0_ok {n : Nat} {D : Nat → Int} {m : Rm.Mem} (h : (Dk.id0 n D).Ok) : (bm0 n D m).Ok := ⟨Pc.m00_ok, by show Pc.M2.settle Pc.m00 = Pc.m00; kernel_rfl, Pt.f00_ok, u0_ok, h, by show (0 : Int) ≤ 0; decide, by show (0 : Int) < 18446744073709551616; decide⟩
def ramRs (M : Nat) (m : Rm.Mem) : Nat → Res := fun i => if i = 6 then ramR M m else .none
theorem rs_all (L : Loc) (x : Bm) (hc : x.cl = false) (hn : x.now = 0) : updR (updR (updR (updR (updR (updR (ramRs L.M x.m) 5 (ideR L.I x.d)) 2 (picR L.P x.p)) 3 (pitR L.T x.f)) 4 (uartR L.U x.u)) 0 (.blk L.B (busO L false 0))) 1 (.blk L.Q (mapO L ports)) = busRs L x := by
 funext j
 match j with
 | 0 => show Res.blk L.B (busO L false 0) = Res.blk L.B (busO L x.cl x.now); rw [hc, hn]
 | 1 | 2 | 3 | 4 | 5 | 6 => rfl
 | n + 7 => rfl
def BNew (w : World) (S : Nat → Prop) (M : Nat) (x : Bm) (B : Nat) (w' : World) : Prop := ∃ L S', L.B = B ∧ L.M = M ∧ BW w' S' L x ∧ Nx w S w' S'
set_option maxHeartbeats 2000000 in
theorem new_ok (w : World) (S : Nat → Prop) (M : Nat) (m : Rm.Mem) (h : Sys w S (ramRs M m)) (a : Option Addr) (Ld c : Nat) (bt : Nat → Int) (hb : Dk.BytAt w a Ld bt) (hbd : ∀ j, j < Ld → 0 ≤ bt j ∧ bt j < 256) (h1 : Ld % 512 = 0) (h2 : Ld ≤ 32768) : Calls Tryz.prog 6 #[.pointer (some ⟨M + 3, 0, none⟩), .slice a Ld c] w fun e w' => ∃ B, e = .returned (.tuple #[.pointer (some ⟨B, 0, none⟩), .int .i64 0]) ∧ BNew w S M (bm0 (Ld / 512) (Dk.dB Ld bt) (memO m)).tell B w' := by
 have HD : Hid _ := Dk.wNew w a Ld c bt hb h1 h2
 unfold Dk.INew at HD
 have okd : (Dk.id0 (Ld / 512) (Dk.dB Ld bt)).Ok := Dk.idN_ok h2 hbd
 obtain ⟨x0, hx0⟩ : ∃ x0, x0 = bm0 (Ld / 512) (Dk.dB Ld bt) (memO m) := ⟨_, rfl⟩
 have ok0 : Hid x0.Ok := by rw [hx0]; exact bm0_ok okd
 obtain ⟨x1, hx1⟩ : ∃ x1 : Bm, x1 = bm0 (Ld / 512) (Dk.dB Ld bt) m := ⟨_, rfl⟩
 have e10 : Hid (x0 = { x1 with m := memO m }) := by show _ = _; rw [hx0, hx1]; rfl
 have e1 : Hid (x1.p = Pc.m00 ∧ x1.f = Pt.f00 ∧ x1.u = Ut.u0 ∧ x1.d = Dk.id0 (Ld / 512) (Dk.dB Ld bt) ∧ x1.m = m ∧ x1.cl = false ∧ x1.now = 0) := by rw [hx1]; exact ⟨rfl, rfl, rfl, rfl, rfl, rfl, rfl⟩
 rw [← hx0]
 generalize Dk.id0 (Ld / 512) (Dk.dB Ld bt) = d0 at *
 have P0 : Hid (Sys w S (ramRs M m)) := h
 clear h hb hbd h1 h2 okd hx0 hx1
 go_enter Tryz.func6, Tryz.ntmps6
 go_wp2_with fail
 refine Calls.mono HD.out ?_; rintro e w1 ⟨rfl, T1, i1, n1, k1⟩
 obtain ⟨I, hI⟩ : ∃ I, I = w.heap.size := ⟨_, rfl⟩
 rw [← hI] at i1
 obtain ⟨S1, s1, nx1⟩ := P0.out.new (i := 5) rfl (r' := ideR I d0) i1 (fun k g => ⟨n1 k g, i1.lt k g⟩) (kDk k1)
 have P1 : Hid (Sys w1 S1 (updR (ramRs M m) 5 (ideR I d0))) := s1
 have N1 : Hid (Nx w S w1 S1) := nx1
 clear i1 n1 k1 s1 nx1 P0 HD
 go_wp2_with fail
 rw [← hI]
 clear hI
 refine Calls.mono (Pc.new_ok w1) ?_; rintro e w2 ⟨rfl, i2, k2⟩
 obtain ⟨P, hP⟩ : ∃ P, P = w1.heap.size := ⟨_, rfl⟩
 rw [← hP] at i2
 obtain ⟨S2, s2, nx2⟩ := P1.out.new (i := 2) rfl (r' := picR P Pc.m00) (T' := isB P) ⟨rfl, i2⟩ (fun k (g : k = P) => ⟨by omega, by rw [g]; exact i2.lt⟩) (kPc k2)
 have P2 : Hid (Sys w2 S2 (updR (updR (ramRs M m) 5 (ideR I d0)) 2 (picR P Pc.m00))) := s2
 have N2 : Hid (Nx w S w2 S2) := N1.out.trans nx2
 clear i2 k2 s2 nx2 P1 N1
 go_wp2_with fail
 rw [← hP]
 clear hP
 refine Calls.mono (Pt.new_ok w2) ?_; rintro e w3 ⟨T, rfl, hT, i3, k3⟩
 obtain ⟨S3, s3, nx3⟩ := P2.out.new (i := 3) rfl (r' := pitR T Pt.f00) (T' := isB T) ⟨rfl, i3⟩ (fun k (g : k = T) => ⟨by omega, by rw [g]; exact i3.lt⟩) (kPt k3)
 have P3 : Hid (Sys w3 S3 (updR (updR (updR (ramRs M m) 5 (ideR I d0)) 2 (picR P Pc.m00)) 3 (pitR T Pt.f00))) := s3
 have N3 : Hid (Nx w S w3 S3) := N2.out.trans nx3
 clear i3 k3 s3 nx3 P2 N2 hT
 go_wp2_with fail
 refine Calls.mono (Ut.wNew w3) ?_; rintro e w4 ⟨U, T4, rfl, i4, n4, k4⟩
 obtain ⟨S4, s4, nx4⟩ := P3.out.new (i := 4) rfl (r' := uartR U Ut.u0) i4 (fun k g => ⟨n4 k g, i4.lt k g⟩) k4
 have P4 : Hid (Sys w4 S4 (updR (updR (updR (updR (ramRs M m) 5 (ideR I d0)) 2 (picR P Pc.m00)) 3 (pitR T Pt.f00)) 4 (uartR U Ut.u0))) := s4
 have N4 : Hid (Nx w S w4 S4) := N3.out.trans nx4
 clear i4 n4 k4 s4 nx4 P3 N3
 obtain ⟨L, hL⟩ : ∃ L : Loc, L = ⟨w4.heap.size, w4.heap.size + 1, P, T, U, I, M⟩ := ⟨_, rfl⟩
 obtain ⟨w5, hw5⟩ : ∃ w5, w5 = w4.alloc (bus0 L) := ⟨_, rfl⟩
 obtain ⟨S5, s5, nx5⟩ := P4.out.new (i := 0) (w' := w5) rfl (r' := .blk L.B (bus0 L)) (T' := isB L.B) ⟨rfl, by rw [hw5, hL]; exact heap_new _ _⟩ (fun k (g : k = L.B) => by rw [g, hw5, hL]; exact ⟨Nat.le_refl _, by simp⟩) (by rw [hw5]; exact Kp.alloc _ _ _)
 have P5 : Hid (Sys w5 S5 (updR (updR (updR (updR (updR (ramRs M m) 5 (ideR I d0)) 2 (picR P Pc.m00)) 3 (pitR T Pt.f00)) 4 (uartR U Ut.u0)) 0 (.blk L.B (bus0 L)))) := s5
 have N5 : Hid (Nx w S w5 S5) := N4.out.trans nx5
 have HL : Hid (Calls Tryz.prog 27 #[.pointer (some ⟨L.B, 0, none⟩)] w5 fun e w' => e = .returned (.tuple #[]) ∧ w'.heap[L.B]? = some (busO L false 0) ∧ w'.heap[L.Q]? = some (mapO L ports) ∧ Kp (isB L.B) w5 w') := layPorts_ok w5 L (by rw [hw5, hL]; exact heap_new _ _) (by rw [hw5, hL]; simp)
 have qn : Hid (L.Q = w5.heap.size) := by show _ = _; rw [hw5, hL]; simp
 have HB : Hid (L.B = w4.heap.size) := by rw [hL]; exact rfl
 have HF : Hid (L.M = M ∧ L.P = P ∧ L.T = T ∧ L.U = U ∧ L.I = I) := by rw [hL]; exact ⟨rfl, rfl, rfl, rfl, rfl⟩
 have hw5' : Hid (w4.alloc (.cells #[.pointer (some ⟨P, 0, none⟩), .pointer (some ⟨T, 0, none⟩), .pointer (some ⟨U, 0, none⟩), .pointer (some ⟨I, 0, none⟩), .pointer (some ⟨M + 3, 0, none⟩), .bool false, .int .u64 0, .map none] 86) = w5) := by rw [hw5, hL]; exact rfl
 clear hL hw5 s5 nx5 P4 N4
 go_wp2_with fail
 rw [hw5'.out, ← HB.out]
 clear hw5' HB
 refine Calls.mono HL.out ?_; rintro e w6 ⟨rfl, b6, q6, k6⟩
 have hz6 : ∃ S6, BW w6 S6 L x1 ∧ Nx w S w6 S6 := by
  obtain ⟨F1, F2, F3, F4, F5⟩ := HF.out
  obtain ⟨E1, E2, E3, E4, E5, E6, E7⟩ := e1.out
  obtain ⟨TT, t1, t2, t3⟩ := P5.out.split 0 1 (by decide) rfl
  have t1' : TT L.B := t1.1
  obtain ⟨S6, s6, nx6⟩ := t3 (.blk L.B (busO L false 0)) (.blk L.Q (mapO L ports)) w6 TT (isB L.Q) ⟨t1', b6⟩ ⟨rfl, q6⟩ ⟨fun _ f => .inl f, k6.mono fun j _ (g : j = L.B) => g ▸ t1'⟩ (fun k g => Nat.lt_of_lt_of_le (t2 k g).2 k6.size) (fun k (g : k = L.Q) => by
   have := qn.out
   have := heap_lt q6
   refine ⟨.inr (by omega), by omega, fun f => ?_⟩
   have := (t2 k f).2
   omega)
  refine ⟨S6, ?_, N5.out.trans nx6⟩
  show Sys w6 S6 (busRs L x1)
  rw [← rs_all L x1 E6 E7, E1, E2, E3, E4, E5, F1, F2, F3, F4, F5]
  refine cast ?_ s6
  congr 1
  funext j
  match j with
  | 0 | 1 | 2 | 3 | 4 | 5 | 6 => rfl
  | n + 7 => rfl
 clear b6 q6 k6 HL qn P5 N5
 obtain ⟨S6, q6, nx6⟩ := hz6
 have Q6 : Hid _ := q6
 have N6 : Hid _ := nx6
 have HG : Hid (Calls Tryz.prog 28 #[.pointer (some ⟨M + 3, 0, none⟩), .bool true] w6 fun e w' => e = .returned (.tuple #[]) ∧ BNx w6 S6 L x0 w') := by
  rw [e10.out, ← HF.out.1]
  refine bRam q6 (by rw [e1.out.2.2.2.2.1]; rfl) (fun q => ?_)
  have := Rm.gate_ok w6 L.M x1.m q true
  rw [e1.out.2.2.2.2.1] at this ⊢
  exact this
 have HT : Hid (∀ W S, BW W S L x0 → _) := fun W S h => tell_ok h ok0.out
 have HM : Hid (L.M = M) := HF.out.1
 clear q6 nx6 e10 e1 ok0 HF
 go_wp2_with fail
 refine Calls.mono HG.out ?_; rintro e w7 ⟨rfl, S7, q7, n7⟩
 have Q7 : Hid _ := q7
 have N7 : Hid (Nx w S w7 S7) := N6.out.trans n7
 clear q7 n7 Q6 N6 HG
 go_wp2_with fail
 refine Calls.mono (HT.out _ _ Q7.out) ?_; rintro e w8 ⟨rfl, S8, q8, n8⟩
 have HZ : Hid (BNew w S M x0.tell L.B w8) := ⟨L, S8, rfl, HM.out, q8, N7.out.trans n8⟩
 clear q8 n8 Q7 N7 HT HM
 go_wp2
 go_ret2
 exact ⟨_, rfl, HZ.out⟩
theorem new_no (w : World) (b : Addr) (a : Option Addr) (Ld c : Nat) (h : Ld % 512 ≠ 0 ∨ 32768 < Ld) (hL : Ld < 9223372036854775808) : Calls Tryz.prog 6 #[.pointer (some b), .slice a Ld c] w fun e w' => e = .returned (.tuple #[.pointer none, .int .i64 140]) ∧ w' = w := by
 have HD : Hid _ := Dk.new_no w a Ld c h hL
 clear h
 go_enter Tryz.func6, Tryz.ntmps6
 go_wp2_with fail
 refine Calls.mono HD.out ?_; rintro e z0 ⟨rfl, hz⟩; replace hz := hz.symm; subst hz
 go_wp2
 go_ret2
 exact ⟨rfl, rfl⟩
def memRs (M : Nat) (o : Obj) : Nat → Res := fun i => if i = 6 then .blk M o else .none
theorem drs_all (L : LocR) (x : Bm) (hc : x.cl = false) (hn : x.now = 0) : updR (updR (updR (updR (updR (memRs L.M (refO L false)) 5 (ideX L.I L.gD L.cap x.d)) 2 (picX L.P x.p)) 3 (pitX L.T x.f)) 4 (uartX L.U x.u)) 0 (.blk L.B (docO L 0)) = docRs L x := by
 funext j
 match j with
 | 0 => show Res.blk L.B (docO L 0) = Res.blk L.B (docO L x.now); rw [hn]
 | 6 => show Res.blk L.M (refO L false) = Res.blk L.M (refO L x.cl); rw [hc]
 | 1 | 2 | 3 | 4 | 5 => rfl
 | n + 7 => rfl
def DNew (w : World) (S : Nat → Prop) (M : Nat) (x : Bm) (B : Nat) (w' : World) : Prop := ∃ L S', L.B = B ∧ L.M = M ∧ DW w' S' L x ∧ Nx w S w' S'
theorem xw_of {w w' : World} {R gD cap : Nat} {dn : Int} {d : Dk.Id} (x1 : Dk.XAt w' R gD cap dn (.slice none 0 0) d) (xd : Dk.Dn d dn) (r1 : w.heap.size ≤ R) (r2 : w.heap.size ≤ gD) : Dk.XW w' (fun k => k = R ∨ k = gD) R gD cap d := by
 refine ⟨⟨dn, _, x1, xd, fun k q => ?_⟩, fun k q => ?_⟩
 ·rcases q with q | q | q
  ·exact .inl q
  ·exact .inr q
  ·cases q
 ·rcases q with q | q
  ·exact x1.foot_lt (.inl q)
  ·exact x1.foot_lt (.inr (.inl q))
set_option maxHeartbeats 2000000 in
theorem dnew_ok (w : World) (S : Nat → Prop) (M : Nat) (V0 V1 V2 V3 : Value) (cl : Bool) (h : Sys w S (memRs M (.cells #[V0, V1, V2, V3, .bool cl] 58 (0, 0)))) (a : Option Addr) (Ld c : Nat) (bt : Nat → Int) (hb : Dk.BytAt w a Ld bt) (hbd : ∀ j, j < Ld → 0 ≤ bt j ∧ bt j < 256) (h1 : Ld % 512 = 0) (h2 : Ld ≤ 32768) (mm : Rm.Mem) : Calls Tryz.prog 8 #[.pointer (some ⟨M, 0, none⟩), .slice a Ld c] w fun e w' => ∃ B, e = .returned (.tuple #[.pointer (some ⟨B, 0, none⟩), .int .i64 0]) ∧ DNew w S M (bm0 (Ld / 512) (Dk.dB Ld bt) mm).tell B w' := by
 have HD : Hid _ := Dk.xnew_ok w a Ld c bt hb h1 h2
 unfold Dk.XNew at HD
 have okd : (Dk.id0 (Ld / 512) (Dk.dB Ld bt)).Ok := Dk.idN_ok h2 hbd
 obtain ⟨x1, hx1⟩ : ∃ x1 : Bm, x1 = bm0 (Ld / 512) (Dk.dB Ld bt) mm := ⟨_, rfl⟩
 have ok0 : Hid x1.Ok := by rw [hx1]; exact bm0_ok okd
 have e1 : Hid (x1.p = Pc.m00 ∧ x1.f = Pt.f00 ∧ x1.u = Ut.u0 ∧ x1.d = Dk.id0 (Ld / 512) (Dk.dB Ld bt) ∧ x1.cl = false ∧ x1.now = 0) := by rw [hx1]; exact ⟨rfl, rfl, rfl, rfl, rfl, rfl⟩
 rw [← hx1]
 generalize Dk.id0 (Ld / 512) (Dk.dB Ld bt) = d0 at *
 have P0 : Hid (Sys w S (memRs M (.cells #[V0, V1, V2, V3, .bool cl] 58 (0, 0)))) := h
 clear h hb hbd h1 h2 okd hx1
 go_enter Tryz.func8, Tryz.ntmps8
 go_wp2_with fail
 refine Calls.mono HD.out ?_; rintro e w1 ⟨I, rfl, gD, cap, dn, i1, i2, r1, r2, k1⟩
 have xw := xw_of i1 i2 r1 r2
 obtain ⟨S1, s1, nx1⟩ := P0.out.new (i := 5) rfl (r' := ideX I gD cap d0) xw (fun k g => ⟨by rcases g with g | g <;> omega, xw.lt k g⟩) (kDk k1)
 have P1 : Hid (Sys w1 S1 (updR (memRs M (.cells #[V0, V1, V2, V3, .bool cl] 58 (0, 0))) 5 (ideX I gD cap d0))) := s1
 have N1 : Hid (Nx w S w1 S1) := nx1
 have hm : w1.heap[M]? = some (.cells #[V0, V1, V2, V3, .bool cl] 58 (0, 0)) := by
  obtain ⟨T, a, b⟩ := P1.out.at 6
  exact a.2
 have m4 := cell_of hm (k := 4) rfl
 have mf := fz_of hm 4
 obtain ⟨S1', s1', nx1'⟩ := Sys.set (o' := .cells #[V0, V1, V2, V3, .bool false] 58 (0, 0)) P1.out (i := 6) rfl (kpB M w1 4 (.bool false)) (by rw [heap_set hm]; rfl)
 obtain ⟨w1', hw1'⟩ : ∃ w1', w1' = w1.setCell ⟨M, 4, none⟩ (.bool false) := ⟨_, rfl⟩
 rw [← hw1'] at s1' nx1'
 have P1' : Hid (Sys w1' S1' (updR (memRs M (.cells #[V0, V1, V2, V3, .bool false] 58 (0, 0))) 5 (ideX I gD cap d0))) := by
  refine cast ?_ s1'
  congr 1
  funext j
  match j with
  | 0 | 1 | 2 | 3 | 4 | 5 | 6 => rfl
  | n + 7 => rfl
 have N1' : Hid (Nx w S w1' S1') := N1.out.trans nx1'
 have hw1 : Hid (w1.setCell ⟨M, 4, none⟩ (.bool false) = w1') := hw1'.symm
 clear i1 i2 r1 r2 k1 s1 nx1 P0 HD xw s1' nx1' P1 N1 hm hw1'
 go_wp2_with fail
 rw [hw1.out]
 clear hw1 m4 mf
 refine Calls.mono (Pc.sNew w1') ?_; rintro e w2 ⟨rfl, i2, k2⟩
 obtain ⟨P, hP⟩ : ∃ P, P = w1'.heap.size := ⟨_, rfl⟩
 rw [← hP] at i2
 obtain ⟨S2, s2, nx2⟩ := P1'.out.new (i := 2) rfl (r' := picX P Pc.m00) (T' := isB P) ⟨rfl, i2⟩ (fun k (g : k = P) => ⟨by omega, by rw [g]; exact i2.lt⟩) (kPc k2)
 have P2 : Hid (Sys w2 S2 (updR (updR (memRs M (.cells #[V0, V1, V2, V3, .bool false] 58 (0, 0))) 5 (ideX I gD cap d0)) 2 (picX P Pc.m00))) := s2
 have N2 : Hid (Nx w S w2 S2) := N1'.out.trans nx2
 clear i2 k2 s2 nx2 P1' N1'
 go_wp2_with fail
 rw [← hP]
 clear hP
 refine Calls.mono (Pt.xNew w2) ?_; rintro e w3 ⟨T, rfl, hT, i3, k3⟩
 obtain ⟨S3, s3, nx3⟩ := P2.out.new (i := 3) rfl (r' := pitX T Pt.f00) (T' := isB T) ⟨rfl, i3⟩ (fun k (g : k = T) => ⟨by omega, by rw [g]; exact i3.lt⟩) (kPt k3)
 have P3 : Hid (Sys w3 S3 (updR (updR (updR (memRs M (.cells #[V0, V1, V2, V3, .bool false] 58 (0, 0))) 5 (ideX I gD cap d0)) 2 (picX P Pc.m00)) 3 (pitX T Pt.f00))) := s3
 have N3 : Hid (Nx w S w3 S3) := N2.out.trans nx3
 clear i3 k3 s3 nx3 P2 N2 hT
 go_wp2_with fail
 refine Calls.mono (Ut.xNew w3) ?_; rintro e w4 ⟨U, T4, rfl, i4, n4, k4⟩
 obtain ⟨S4, s4, nx4⟩ := P3.out.new (i := 4) rfl (r' := uartX U Ut.u0) i4 (fun k g => ⟨n4 k g, i4.lt k g⟩) k4
 have P4 : Hid (Sys w4 S4 (updR (updR (updR (updR (memRs M (.cells #[V0, V1, V2, V3, .bool false] 58 (0, 0))) 5 (ideX I gD cap d0)) 2 (picX P Pc.m00)) 3 (pitX T Pt.f00)) 4 (uartX U Ut.u0))) := s4
 have N4 : Hid (Nx w S w4 S4) := N3.out.trans nx4
 clear i4 n4 k4 s4 nx4 P3 N3
 obtain ⟨L, hL⟩ : ∃ L : LocR, L = ⟨w4.heap.size, P, T, U, I, gD, cap, M, V0, V1, V2, V3⟩ := ⟨_, rfl⟩
 obtain ⟨w5, hw5⟩ : ∃ w5, w5 = w4.alloc (docO L 0) := ⟨_, rfl⟩
 obtain ⟨S5, s5, nx5⟩ := P4.out.new (i := 0) (w' := w5) rfl (r' := .blk L.B (docO L 0)) (T' := isB L.B) ⟨rfl, by rw [hw5, hL]; exact heap_new _ _⟩ (fun k (g : k = L.B) => by rw [g, hw5, hL]; exact ⟨Nat.le_refl _, by simp⟩) (by rw [hw5]; exact Kp.alloc _ _ _)
 have Q6 : Hid (DW w5 S5 L x1) := by
  obtain ⟨E1, E2, E3, E4, E6, E7⟩ := e1.out
  show Sys w5 S5 (docRs L x1)
  rw [← drs_all L x1 E6 E7, E1, E2, E3, E4]
  refine cast ?_ s5
  rw [hL]
  rfl
 have N6 : Hid (Nx w S w5 S5) := N4.out.trans nx5
 have HB : Hid (L.B = w4.heap.size) := by rw [hL]; exact rfl
 have HM : Hid (L.M = M) := by rw [hL]; exact rfl
 have hw5' : Hid (w4.alloc (.cells #[.pointer (some ⟨M, 0, none⟩), .pointer (some ⟨P, 0, none⟩), .pointer (some ⟨T, 0, none⟩), .pointer (some ⟨U, 0, none⟩), .pointer (some ⟨I, 0, none⟩), .int .u64 0] 51) = w5) := by rw [hw5, hL]; exact rfl
 have HT : Hid (∀ W S, DW W S L x1 → _) := fun W S h => lines_ok h ok0.out
 clear hL hw5 s5 nx5 P4 N4 e1 ok0
 go_wp2_with fail
 rw [hw5'.out, ← HB.out]
 clear hw5' HB
 refine Calls.mono (HT.out _ _ Q6.out) ?_; rintro e w8 ⟨rfl, S8, q8, n8⟩
 have HZ : Hid (DNew w S M x1.tell L.B w8) := ⟨L, S8, rfl, HM.out, q8, N6.out.trans n8⟩
 clear q8 n8 Q6 N6 HT HM
 go_wp2
 go_ret2
 exact ⟨_, rfl, HZ.out⟩
theorem dnew_no (w : World) (b : Addr) (a : Option Addr) (Ld c : Nat) (h : Ld % 512 ≠ 0 ∨ 32768 < Ld) (hL : Ld < 9223372036854775808) : Calls Tryz.prog 8 #[.pointer (some b), .slice a Ld c] w fun e w' => e = .returned (.tuple #[.pointer none, .int .i64 140]) ∧ w' = w := by
 have HD : Hid _ := Dk.xnew_no w a Ld c h hL
 clear h
 go_enter Tryz.func8, Tryz.ntmps8
 go_wp2_with fail
 refine Calls.mono HD.out ?_; rintro e z0 ⟨rfl, hz⟩; replace hz := hz.symm; subst hz
 go_wp2
 go_ret2
 exact ⟨rfl, rfl⟩
def chipV (p : Int) : Int := if p = 32 then 0 else if p = 33 then 1 else if p = 160 then 2 else if p = 161 then 3 else -1
def diskV (p : Int) : Int := if 496 ≤ p ∧ p < 504 then p - 496 else if p = 1014 then 8 else -1
theorem chip_any (w : World) (p : Int) (p0 : 0 ≤ p) (p1 : p < 65536) : Calls Tryz.prog 124 #[.int .u16 p] w fun e w' => e = .returned (.int .i64 (chipV p)) ∧ w' = w := by
 unfold chipV
 by_cases h1 : p = 32
 ·subst h1
  go_enter Tryz.func124, Tryz.ntmps124
  go_wp2
  go_ret
  exact ⟨rfl, rfl⟩
 by_cases h2 : p = 33
 ·subst h2
  go_enter Tryz.func124, Tryz.ntmps124
  go_wp2
  go_ret
  exact ⟨rfl, rfl⟩
 by_cases h3 : p = 160
 ·subst h3
  go_enter Tryz.func124, Tryz.ntmps124
  go_wp2
  go_ret
  exact ⟨rfl, rfl⟩
 by_cases h4 : p = 161
 ·subst h4
  go_enter Tryz.func124, Tryz.ntmps124
  go_wp2
  go_ret
  exact ⟨rfl, rfl⟩
 rw [if_neg h1, if_neg h2, if_neg h3, if_neg h4]
 have e1 : (p == 32) = false := by rw [beq_eq_false_iff_ne]; exact h1
 have e2 : (p == 33) = false := by rw [beq_eq_false_iff_ne]; exact h2
 have e3 : (p == 160) = false := by rw [beq_eq_false_iff_ne]; exact h3
 have e4 : (p == 161) = false := by rw [beq_eq_false_iff_ne]; exact h4
 clear h1 h2 h3 h4
 go_enter Tryz.func124, Tryz.ntmps124
 go_wp2
 go_ret
 exact ⟨rfl, rfl⟩
theorem disk_any (w : World) (p : Int) (p0 : 0 ≤ p) (p1 : p < 65536) : Calls Tryz.prog 125 #[.int .u16 p] w fun e w' => e = .returned (.int .i64 (diskV p)) ∧ w' = w := by
 unfold diskV
 by_cases h1 : 496 ≤ p ∧ p < 504
 ·rw [if_pos h1]
  have a := h1.1
  have b := h1.2
  have f : IntKind.u16.wrap (p - 496) = p - 496 := by rw [IntKind.wrap_u16]; omega
  have f2 : (p - 496) % 65536 = p - 496 := by omega
  clear h1
  go_enter Tryz.func125, Tryz.ntmps125
  go_wp2
  go_ret
  exact ⟨rfl, rfl⟩
 ·rw [if_neg h1]
  by_cases h2 : p = 1014
  ·subst h2
   clear h1
   go_enter Tryz.func125, Tryz.ntmps125
   go_wp2
   go_ret
   exact ⟨rfl, rfl⟩
  ·rw [if_neg h2]
   have e2 : (p == 1014) = false := by rw [beq_eq_false_iff_ne]; exact h2
   clear h2
   by_cases a : 496 ≤ p
   ·have b : ¬ p < 504 := fun b => h1 ⟨a, b⟩
    clear h1
    go_enter Tryz.func125, Tryz.ntmps125
    go_wp2
    go_ret
    exact ⟨rfl, rfl⟩
   ·clear h1
    go_enter Tryz.func125, Tryz.ntmps125
    go_wp2
    go_ret
    exact ⟨rfl, rfl⟩
inductive Way (p : Int) : Dv × Int → Prop
 | pic (a : Int) (h : chipV p = a) (a0 : 0 ≤ a) (a1 : a < 4) (hp : p = 32 ∨ p = 33 ∨ p = 160 ∨ p = 161) : Way p (.pic, a)
 | pit (h0 : 64 ≤ p) (h1 : p < 68) : Way p (.pit, p - 64)
 | uart (h0 : 1016 ≤ p) (h1 : p < 1024) : Way p (.uart, p - 1016)
 | ide (h0 : 496 ≤ p) (h1 : p < 504) : Way p (.ide, p - 496)
 | ctl (h : p = 1014) : Way p (.ide, 8)
 | gate (h : p = 146) : Way p (.gate, 0)
theorem way {p : Int} {q : Dv × Int} (h : portOf p = some q) : Way p q := by
 unfold portOf at h
 by_cases h1 : p = 32 ∨ p = 33
 ·rw [if_pos h1] at h
  injection h with h
  subst h
  exact .pic _ (by unfold chipV; rcases h1 with rfl | rfl <;> rfl) (by omega) (by omega) (by omega)
 rw [if_neg h1] at h
 by_cases h2 : p = 160 ∨ p = 161
 ·rw [if_pos h2] at h
  injection h with h
  subst h
  exact .pic _ (by unfold chipV; rcases h2 with rfl | rfl <;> rfl) (by omega) (by omega) (by omega)
 rw [if_neg h2] at h
 by_cases h3 : 64 ≤ p ∧ p < 68
 ·rw [if_pos h3] at h
  injection h with h
  subst h
  exact .pit h3.1 h3.2
 rw [if_neg h3] at h
 by_cases h4 : 1016 ≤ p ∧ p < 1024
 ·rw [if_pos h4] at h
  injection h with h
  subst h
  exact .uart h4.1 h4.2
 rw [if_neg h4] at h
 by_cases h5 : 496 ≤ p ∧ p < 504
 ·rw [if_pos h5] at h
  injection h with h
  subst h
  exact .ide h5.1 h5.2
 rw [if_neg h5] at h
 by_cases h6 : p = 1014
 ·rw [if_pos h6] at h
  injection h with h
  subst h
  exact .ctl h6
 rw [if_neg h6] at h
 by_cases h7 : p = 146
 ·rw [if_pos h7] at h
  injection h with h
  subst h
  exact .gate h7
 rw [if_neg h7] at h
 cases h
theorem no_way {p : Int} (h : portOf p = none) : chipV p = -1 ∧ diskV p = -1 ∧ ¬ (64 ≤ p ∧ p < 68) ∧ ¬ (1016 ≤ p ∧ p < 1024) ∧ p ≠ 146 := by
 unfold portOf at h
 by_cases h1 : p = 32 ∨ p = 33
 ·rw [if_pos h1] at h; cases h
 rw [if_neg h1] at h
 by_cases h2 : p = 160 ∨ p = 161
 ·rw [if_pos h2] at h; cases h
 rw [if_neg h2] at h
 by_cases h3 : 64 ≤ p ∧ p < 68
 ·rw [if_pos h3] at h; cases h
 rw [if_neg h3] at h
 by_cases h4 : 1016 ≤ p ∧ p < 1024
 ·rw [if_pos h4] at h; cases h
 rw [if_neg h4] at h
 by_cases h5 : 496 ≤ p ∧ p < 504
 ·rw [if_pos h5] at h; cases h
 rw [if_neg h5] at h
 by_cases h6 : p = 1014
 ·rw [if_pos h6] at h; cases h
 rw [if_neg h6] at h
 by_cases h7 : p = 146
 ·rw [if_pos h7] at h; cases h
 refine ⟨?_, ?_, h3, h4, h7⟩
 ·unfold chipV
  rw [if_neg (by omega), if_neg (by omega), if_neg (by omega), if_neg (by omega)]
 ·unfold diskV
  rw [if_neg h5, if_neg h6]
theorem no_chip {p : Int} (h : ¬ (p = 32 ∨ p = 33 ∨ p = 160 ∨ p = 161)) : chipV p = -1 := by
 unfold chipV
 rw [if_neg (by omega), if_neg (by omega), if_neg (by omega), if_neg (by omega)]
theorem no_disk {p : Int} (h : ¬ (496 ≤ p ∧ p < 504)) (h2 : p ≠ 1014) : diskV p = -1 := by
 unfold diskV
 rw [if_neg h, if_neg h2]
section
variable {w : World} {S : Nat → Prop} {L : LocR} {x : Bm}
set_option maxHeartbeats 2000000 in
theorem rout_pic32 (h : DW w S L x) (k : x.Ok) (v : Int) (hv : Byt v) (hw : x.wk + 4 < 9007199254740) : Calls Tryz.prog 80 #[.pointer (some ⟨L.B, 0, none⟩), .int .u16 32, .int .u8 v] w fun e w' => e = .returned (.tuple #[]) ∧ DNx w S L (x.outD v (some (.pic, 0))) w' := by
 have HC : Hid (∀ w, _) := fun w => chip_any w 32 (by omega) (by omega)
 have HD : Hid (∀ w, _) := fun w => disk_any w 32 (by omega) (by omega)
 rw [show chipV 32 = 0 from rfl] at HC
 rw [show diskV 32 = -1 from rfl] at HD
 have HA : Hid (∀ W S, DW W S L x → Calls Tryz.prog 126 #[.pointer (some ⟨L.P, 0, none⟩), .int .i64 0, .int .u8 v] W fun e w' => e = .returned (.int .i64 0) ∧ DNx W S L (x.outD v (some (.pic, 0))) w') := fun W S h => dPic h (fun T q => Pc.sOut W L.P _ T q 0 v (by decide) (by decide) hv)
 have P0 : Hid (DW w S L x) := h
 have c1 := h.c1
 clear h k hv hw
 generalize x.outD v (some (.pic, 0)) = X at *
 go_enter Tryz.func80, Tryz.ntmps80
 go_wp2_with fail
 refine Calls.mono (HC.out _) ?_; rintro e z0 ⟨rfl, hz⟩; replace hz := hz.symm; subst hz
 go_wp2_with fail
 refine Calls.mono (HD.out _) ?_; rintro e z0 ⟨rfl, hz⟩; replace hz := hz.symm; subst hz
 go_wp2_with fail
 refine Calls.mono (HA.out _ _ P0.out) ?_; rintro e z1 ⟨rfl, hz⟩
 have HZ : Hid _ := hz
 clear hz P0 HA HC HD c1
 go_wp2
 go_end0
 exact ⟨rfl, HZ.out⟩
set_option maxHeartbeats 2000000 in
theorem rout_pic33 (h : DW w S L x) (k : x.Ok) (v : Int) (hv : Byt v) (hw : x.wk + 4 < 9007199254740) : Calls Tryz.prog 80 #[.pointer (some ⟨L.B, 0, none⟩), .int .u16 33, .int .u8 v] w fun e w' => e = .returned (.tuple #[]) ∧ DNx w S L (x.outD v (some (.pic, 1))) w' := by
 have HC : Hid (∀ w, _) := fun w => chip_any w 33 (by omega) (by omega)
 have HD : Hid (∀ w, _) := fun w => disk_any w 33 (by omega) (by omega)
 rw [show chipV 33 = 1 from rfl] at HC
 rw [show diskV 33 = -1 from rfl] at HD
 have HA : Hid (∀ W S, DW W S L x → Calls Tryz.prog 126 #[.pointer (some ⟨L.P, 0, none⟩), .int .i64 1, .int .u8 v] W fun e w' => e = .returned (.int .i64 0) ∧ DNx W S L (x.outD v (some (.pic, 1))) w') := fun W S h => dPic h (fun T q => Pc.sOut W L.P _ T q 1 v (by decide) (by decide) hv)
 have P0 : Hid (DW w S L x) := h
 have c1 := h.c1
 clear h k hv hw
 generalize x.outD v (some (.pic, 1)) = X at *
 go_enter Tryz.func80, Tryz.ntmps80
 go_wp2_with fail
 refine Calls.mono (HC.out _) ?_; rintro e z0 ⟨rfl, hz⟩; replace hz := hz.symm; subst hz
 go_wp2_with fail
 refine Calls.mono (HD.out _) ?_; rintro e z0 ⟨rfl, hz⟩; replace hz := hz.symm; subst hz
 go_wp2_with fail
 refine Calls.mono (HA.out _ _ P0.out) ?_; rintro e z1 ⟨rfl, hz⟩
 have HZ : Hid _ := hz
 clear hz P0 HA HC HD c1
 go_wp2
 go_end0
 exact ⟨rfl, HZ.out⟩
set_option maxHeartbeats 2000000 in
theorem rout_pic160 (h : DW w S L x) (k : x.Ok) (v : Int) (hv : Byt v) (hw : x.wk + 4 < 9007199254740) : Calls Tryz.prog 80 #[.pointer (some ⟨L.B, 0, none⟩), .int .u16 160, .int .u8 v] w fun e w' => e = .returned (.tuple #[]) ∧ DNx w S L (x.outD v (some (.pic, 2))) w' := by
 have HC : Hid (∀ w, _) := fun w => chip_any w 160 (by omega) (by omega)
 have HD : Hid (∀ w, _) := fun w => disk_any w 160 (by omega) (by omega)
 rw [show chipV 160 = 2 from rfl] at HC
 rw [show diskV 160 = -1 from rfl] at HD
 have HA : Hid (∀ W S, DW W S L x → Calls Tryz.prog 126 #[.pointer (some ⟨L.P, 0, none⟩), .int .i64 2, .int .u8 v] W fun e w' => e = .returned (.int .i64 0) ∧ DNx W S L (x.outD v (some (.pic, 2))) w') := fun W S h => dPic h (fun T q => Pc.sOut W L.P _ T q 2 v (by decide) (by decide) hv)
 have P0 : Hid (DW w S L x) := h
 have c1 := h.c1
 clear h k hv hw
 generalize x.outD v (some (.pic, 2)) = X at *
 go_enter Tryz.func80, Tryz.ntmps80
 go_wp2_with fail
 refine Calls.mono (HC.out _) ?_; rintro e z0 ⟨rfl, hz⟩; replace hz := hz.symm; subst hz
 go_wp2_with fail
 refine Calls.mono (HD.out _) ?_; rintro e z0 ⟨rfl, hz⟩; replace hz := hz.symm; subst hz
 go_wp2_with fail
 refine Calls.mono (HA.out _ _ P0.out) ?_; rintro e z1 ⟨rfl, hz⟩
 have HZ : Hid _ := hz
 clear hz P0 HA HC HD c1
 go_wp2
 go_end0
 exact ⟨rfl, HZ.out⟩
set_option maxHeartbeats 2000000 in
theorem rout_pic161 (h : DW w S L x) (k : x.Ok) (v : Int) (hv : Byt v) (hw : x.wk + 4 < 9007199254740) : Calls Tryz.prog 80 #[.pointer (some ⟨L.B, 0, none⟩), .int .u16 161, .int .u8 v] w fun e w' => e = .returned (.tuple #[]) ∧ DNx w S L (x.outD v (some (.pic, 3))) w' := by
 have HC : Hid (∀ w, _) := fun w => chip_any w 161 (by omega) (by omega)
 have HD : Hid (∀ w, _) := fun w => disk_any w 161 (by omega) (by omega)
 rw [show chipV 161 = 3 from rfl] at HC
 rw [show diskV 161 = -1 from rfl] at HD
 have HA : Hid (∀ W S, DW W S L x → Calls Tryz.prog 126 #[.pointer (some ⟨L.P, 0, none⟩), .int .i64 3, .int .u8 v] W fun e w' => e = .returned (.int .i64 0) ∧ DNx W S L (x.outD v (some (.pic, 3))) w') := fun W S h => dPic h (fun T q => Pc.sOut W L.P _ T q 3 v (by decide) (by decide) hv)
 have P0 : Hid (DW w S L x) := h
 have c1 := h.c1
 clear h k hv hw
 generalize x.outD v (some (.pic, 3)) = X at *
 go_enter Tryz.func80, Tryz.ntmps80
 go_wp2_with fail
 refine Calls.mono (HC.out _) ?_; rintro e z0 ⟨rfl, hz⟩; replace hz := hz.symm; subst hz
 go_wp2_with fail
 refine Calls.mono (HD.out _) ?_; rintro e z0 ⟨rfl, hz⟩; replace hz := hz.symm; subst hz
 go_wp2_with fail
 refine Calls.mono (HA.out _ _ P0.out) ?_; rintro e z1 ⟨rfl, hz⟩
 have HZ : Hid _ := hz
 clear hz P0 HA HC HD c1
 go_wp2
 go_end0
 exact ⟨rfl, HZ.out⟩
set_option maxHeartbeats 2000000 in
theorem rout_pit (h : DW w S L x) (k : x.Ok) (p : Int) (h0 : 64 ≤ p) (h1 : p < 68) (v : Int) (hv : Byt v) (hw : x.wk + 4 < 9007199254740) : Calls Tryz.prog 80 #[.pointer (some ⟨L.B, 0, none⟩), .int .u16 p, .int .u8 v] w fun e w' => e = .returned (.tuple #[]) ∧ DNx w S L (x.outD v (some (.pit, p - 64))) w' := by
 have HC : Hid (∀ w, _) := fun w => chip_any w p (by omega) (by omega)
 have HD : Hid (∀ w, _) := fun w => disk_any w p (by omega) (by omega)
 rw [show chipV p = -1 from no_chip (by omega)] at HC
 rw [show diskV p = -1 from no_disk (by omega) (by omega)] at HD
 have q7 : (p == 146) = false := by rw [beq_eq_false_iff_ne]; omega
 have u1 : ¬ 1016 ≤ p := by omega
 have HA : Hid (∀ W S, DW W S L x → Calls Tryz.prog 127 #[.pointer (some ⟨L.T, 0, none⟩), .int .i64 (p - 64), .int .u8 v, .int .u64 x.now] W fun e w' => e = .returned (.int .i64 0) ∧ DNx W S L { x with f := Pt.outF x.f (p - 64) v x.now } w') := fun W S h => dPit h (fun q => Pt.xOut W L.T x.f q (p - 64) v x.now (by omega) (by omega) hv.1 hv.2 k.n0 k.n1)
 have P0 : Hid (DW w S L x) := h
 have CA : Hid (∀ W S f, DW W S L { x with f := f } → W.cell? ⟨L.B, 2, none⟩ = some (.pointer (some ⟨L.T, 0, none⟩)) ∧ W.cell? ⟨L.B, 5, none⟩ = some (.int .u64 x.now)) := fun W S m h => ⟨h.c2, h.c5⟩
 have PD : Hid (DW w.drew S L x) := h.drew
 have N0 : Hid (Nx w S w.drew S) := Nx.keep (Kp.refl _ _).drew
 have S0 : Hid _ := CA.out _ _ _ PD.out
 obtain ⟨a, ha⟩ : ∃ a, a = p - 64 := ⟨_, rfl⟩
 have a0 : 0 ≤ a := by omega
 have a1 : a < 4 := by omega
 have f1 : IntKind.u16.wrap (p - 64) = a := by rw [IntKind.wrap_u16]; omega
 have f2 : (p - 64) % 65536 = a := by omega
 have f3 : p - 64 = a := ha.symm
 have f5 : IntKind.u16.wrap a = a := by rw [IntKind.wrap_u16]; omega
 have f6 : a % 65536 = a := by omega
 have f7 : IntKind.i64.wrap a = a := by rw [IntKind.wrap_i64]; omega
 rw [← ha] at HA ⊢
 clear ha
 show Calls _ _ _ _ fun e w' => e = .returned (.tuple #[]) ∧ DNx w S L { x with f := Pt.outF x.f a v x.now } w'
 generalize Pt.outF x.f a v x.now = f' at *
 clear h k hv hw P0
 go_enter Tryz.func80, Tryz.ntmps80
 go_wp2_with fail
 refine Calls.mono (HC.out _) ?_; rintro e z0 ⟨rfl, hz⟩; replace hz := hz.symm; subst hz
 go_wp2_with fail
 refine Calls.mono (HD.out _) ?_; rintro e z0 ⟨rfl, hz⟩; replace hz := hz.symm; subst hz
 go_wp2
 go_region_held3 (fun W => W.cell? ⟨L.B, 2, none⟩ = some (.pointer (some ⟨L.T, 0, none⟩)) ∧ W.cell? ⟨L.B, 5, none⟩ = some (.int .u64 x.now))
  (first | exact S0.out | exact CA.out _ _ _ (by assumption) | assumption)
  (first | (go_at_call 127; refine Calls.mono (HA.out _ _ PD.out) ?_; rintro e z1 ⟨rfl, S1, p1, n1⟩))
 have HZ : Hid (DNx w S L { x with f := f' } z1) := ⟨S1, p1, N0.out.trans n1⟩
 clear p1 n1 S0 PD N0 HA CA HC HD
 go_wp2
 go_end0
 exact ⟨rfl, HZ.out⟩
set_option maxHeartbeats 2000000 in
theorem rout_uart (h : DW w S L x) (k : x.Ok) (p : Int) (h0 : 1016 ≤ p) (h1 : p < 1024) (v : Int) (hv : Byt v) (hw : x.wk + 4 < 9007199254740) : Calls Tryz.prog 80 #[.pointer (some ⟨L.B, 0, none⟩), .int .u16 p, .int .u8 v] w fun e w' => e = .returned (.tuple #[]) ∧ DNx w S L (x.outD v (some (.uart, p - 1016))) w' := by
 have HC : Hid (∀ w, _) := fun w => chip_any w p (by omega) (by omega)
 have HD : Hid (∀ w, _) := fun w => disk_any w p (by omega) (by omega)
 rw [show chipV p = -1 from no_chip (by omega)] at HC
 rw [show diskV p = -1 from no_disk (by omega) (by omega)] at HD
 have q7 : (p == 146) = false := by rw [beq_eq_false_iff_ne]; omega
 have t1 : 64 ≤ p := by omega
 have t2 : ¬ p < 68 := by omega
 have f1 : IntKind.u16.wrap (p - 1016) = p - 1016 := by rw [IntKind.wrap_u16]; omega
 have f2 : (p - 1016) % 65536 = p - 1016 := by omega
 have HA : Hid (∀ W S, DW W S L x → Calls Tryz.prog 128 #[.pointer (some ⟨L.U, 0, none⟩), .int .i64 (p - 1016), .int .u8 v] W fun e w' => e = .returned (.int .i64 0) ∧ DNx W S L (x.outD v (some (.uart, p - 1016))) w') := fun W S h => dUart (E := fun e => e = .returned (.int .i64 0)) h (fun T q => by
  have := Ut.xOut q k.u (p - 1016) v hv (by unfold Bm.wk at hw; omega)
  rwa [if_pos (by omega), if_pos (by omega)] at this)
 have P0 : Hid (DW w S L x) := h
 have c3 := h.c3
 clear h k hv hw
 generalize x.outD v (some (.uart, p - 1016)) = X at *
 go_enter Tryz.func80, Tryz.ntmps80
 go_wp2_with fail
 refine Calls.mono (HC.out _) ?_; rintro e z0 ⟨rfl, hz⟩; replace hz := hz.symm; subst hz
 go_wp2_with fail
 refine Calls.mono (HD.out _) ?_; rintro e z0 ⟨rfl, hz⟩; replace hz := hz.symm; subst hz
 go_wp2_with fail
 refine Calls.mono (HA.out _ _ P0.out) ?_; rintro e z1 ⟨rfl, hz⟩
 have HZ : Hid _ := hz
 clear hz P0 HA HC HD c3
 go_wp2
 go_end0
 exact ⟨rfl, HZ.out⟩
set_option maxHeartbeats 2000000 in
theorem rout_ide (h : DW w S L x) (k : x.Ok) (p : Int) (h0 : 496 ≤ p) (h1 : p < 504) (v : Int) (hv : Byt v) (hw : x.wk + 4 < 9007199254740) : Calls Tryz.prog 80 #[.pointer (some ⟨L.B, 0, none⟩), .int .u16 p, .int .u8 v] w fun e w' => e = .returned (.tuple #[]) ∧ DNx w S L (x.outD v (some (.ide, p - 496))) w' := by
 have HC : Hid (∀ w, _) := fun w => chip_any w p (by omega) (by omega)
 have HD : Hid (∀ w, _) := fun w => disk_any w p (by omega) (by omega)
 rw [show chipV p = -1 from no_chip (by omega)] at HC
 rw [show diskV p = p - 496 from by unfold diskV; rw [if_pos ⟨h0, h1⟩]] at HD
 have q7 : (p == 146) = false := by rw [beq_eq_false_iff_ne]; omega
 have t1 : 64 ≤ p := by omega
 have t2 : ¬ p < 68 := by omega
 have u1 : ¬ 1016 ≤ p := by omega
 have dg : p - 496 ≥ 0 := by omega
 have v0 := hv.1
 have v1 := hv.2
 have HA : Hid (∀ W S, DW W S L x → Calls Tryz.prog 79 #[.pointer (some ⟨L.I, 0, none⟩), .int .i64 (p - 496), .int .i64 1, .int .u32 v] W fun e w' => e = .returned (.int .i64 (Dk.ck (p - 496) 1)) ∧ DNx W S L (x.outD v (some (.ide, p - 496))) w') := fun W S h => dIde h (fun T q => Dk.xOut q k.d (p - 496) 1 v v0 (by omega) (by unfold Bm.wk at hw; omega))
 have P0 : Hid (DW w S L x) := h
 have c4 := h.c4
 clear h k hv hw
 generalize x.outD v (some (.ide, p - 496)) = X at *
 generalize Dk.ck (p - 496) 1 = Y at *
 go_enter Tryz.func80, Tryz.ntmps80
 go_wp2_with fail
 refine Calls.mono (HC.out _) ?_; rintro e z0 ⟨rfl, hz⟩; replace hz := hz.symm; subst hz
 go_wp2_with fail
 refine Calls.mono (HD.out _) ?_; rintro e z0 ⟨rfl, hz⟩; replace hz := hz.symm; subst hz
 go_wp2_with fail
 refine Calls.mono (HA.out _ _ P0.out) ?_; rintro e z1 ⟨rfl, hz⟩
 have HZ : Hid _ := hz
 clear hz P0 HA HC HD c4
 go_wp2
 go_end0
 exact ⟨rfl, HZ.out⟩
set_option maxHeartbeats 2000000 in
theorem rout_ctl (h : DW w S L x) (k : x.Ok) (v : Int) (hv : Byt v) (hw : x.wk + 4 < 9007199254740) : Calls Tryz.prog 80 #[.pointer (some ⟨L.B, 0, none⟩), .int .u16 1014, .int .u8 v] w fun e w' => e = .returned (.tuple #[]) ∧ DNx w S L (x.outD v (some (.ide, 8))) w' := by
 have HC : Hid (∀ w, _) := fun w => chip_any w 1014 (by omega) (by omega)
 have HD : Hid (∀ w, _) := fun w => disk_any w 1014 (by omega) (by omega)
 rw [show chipV 1014 = -1 from rfl] at HC
 rw [show diskV 1014 = 8 from rfl] at HD
 have v0 := hv.1
 have v1 := hv.2
 have HA : Hid (∀ W S, DW W S L x → Calls Tryz.prog 79 #[.pointer (some ⟨L.I, 0, none⟩), .int .i64 (8), .int .i64 1, .int .u32 v] W fun e w' => e = .returned (.int .i64 (Dk.ck (8) 1)) ∧ DNx W S L (x.outD v (some (.ide, 8))) w') := fun W S h => dIde h (fun T q => Dk.xOut q k.d (8) 1 v v0 (by omega) (by unfold Bm.wk at hw; omega))
 have P0 : Hid (DW w S L x) := h
 have c4 := h.c4
 clear h k hv hw
 generalize x.outD v (some (.ide, 8)) = X at *
 generalize Dk.ck (8) 1 = Y at *
 go_enter Tryz.func80, Tryz.ntmps80
 go_wp2_with fail
 refine Calls.mono (HC.out _) ?_; rintro e z0 ⟨rfl, hz⟩; replace hz := hz.symm; subst hz
 go_wp2_with fail
 refine Calls.mono (HD.out _) ?_; rintro e z0 ⟨rfl, hz⟩; replace hz := hz.symm; subst hz
 go_wp2_with fail
 refine Calls.mono (HA.out _ _ P0.out) ?_; rintro e z1 ⟨rfl, hz⟩
 have HZ : Hid _ := hz
 clear hz P0 HA HC HD c4
 go_wp2
 go_end0
 exact ⟨rfl, HZ.out⟩
set_option maxHeartbeats 2000000 in
theorem rout_gate (h : DW w S L x) (k : x.Ok) (v : Int) (hv : Byt v) (hw : x.wk + 4 < 9007199254740) : Calls Tryz.prog 80 #[.pointer (some ⟨L.B, 0, none⟩), .int .u16 146, .int .u8 v] w fun e w' => e = .returned (.tuple #[]) ∧ DNx w S L (x.outD v (some (.gate, 0))) w' := by
 have HC : Hid (∀ w, _) := fun w => chip_any w 146 (by omega) (by omega)
 have HD : Hid (∀ w, _) := fun w => disk_any w 146 (by omega) (by omega)
 rw [show chipV 146 = -1 from rfl] at HC
 rw [show diskV 146 = -1 from rfl] at HD
 have P0 : Hid (DW w S L x) := h
 have c0 := h.c0
 have m4 := h.m4
 have mf := h.mfz 4
 have HZ : Hid (DNx w S L (x.outD v (some (.gate, 0))) (w.setCell ⟨L.M, 4, none⟩ (.bool (v / 2 % 2 == 0)))) := dGate h (shutV v) { x.m with closed := shutV v }
 have v0 := hv.1
 have v1 := hv.2
 clear h k hv hw
 generalize x.outD v (some (.gate, 0)) = X at *
 go_enter Tryz.func80, Tryz.ntmps80
 go_wp2_with fail
 refine Calls.mono (HC.out _) ?_; rintro e z0 ⟨rfl, hz⟩; replace hz := hz.symm; subst hz
 go_wp2_with fail
 refine Calls.mono (HD.out _) ?_; rintro e z0 ⟨rfl, hz⟩; replace hz := hz.symm; subst hz
 clear HC HD P0
 go_wp2
 go_end0
 exact ⟨rfl, HZ.out⟩
theorem rout_none (h : DW w S L x) (p : Int) (p0 : 0 ≤ p) (p1 : p < 65536) (hp : portOf p = none) (v : Int) : Calls Tryz.prog 80 #[.pointer (some ⟨L.B, 0, none⟩), .int .u16 p, .int .u8 v] w fun e w' => e = .returned (.tuple #[]) ∧ DNx w S L x w' := by
 obtain ⟨e1, e2, e3, e4, e5⟩ := no_way hp
 have HC : Hid (∀ w, _) := fun w => chip_any w p p0 p1
 have HD : Hid (∀ w, _) := fun w => disk_any w p p0 p1
 rw [e1] at HC
 rw [e2] at HD
 have HZ : Hid (DNx w S L x w) := .refl h
 have q7 : (p == 146) = false := by rw [beq_eq_false_iff_ne]; exact e5
 clear h e1 e2 e5 hp
 rcases (by omega : ¬ 64 ≤ p ∨ (64 ≤ p ∧ ¬ p < 68)) with t1 | ⟨t1, t2⟩
 ·have u1 : ¬ 1016 ≤ p := by omega
  clear e3 e4
  go_enter Tryz.func80, Tryz.ntmps80
  go_wp2_with fail
  refine Calls.mono (HC.out _) ?_; rintro e z0 ⟨rfl, hz⟩; replace hz := hz.symm; subst hz
  go_wp2_with fail
  refine Calls.mono (HD.out _) ?_; rintro e z0 ⟨rfl, hz⟩; replace hz := hz.symm; subst hz
  go_wp2
  go_end0
  exact ⟨rfl, HZ.out⟩
 ·rcases (by omega : ¬ 1016 ≤ p ∨ (1016 ≤ p ∧ ¬ p < 1024)) with u1 | ⟨u1, u2⟩
  ·clear e3 e4
   go_enter Tryz.func80, Tryz.ntmps80
   go_wp2_with fail
   refine Calls.mono (HC.out _) ?_; rintro e z0 ⟨rfl, hz⟩; replace hz := hz.symm; subst hz
   go_wp2_with fail
   refine Calls.mono (HD.out _) ?_; rintro e z0 ⟨rfl, hz⟩; replace hz := hz.symm; subst hz
   go_wp2
   go_end0
   exact ⟨rfl, HZ.out⟩
  ·clear e3 e4
   go_enter Tryz.func80, Tryz.ntmps80
   go_wp2_with fail
   refine Calls.mono (HC.out _) ?_; rintro e z0 ⟨rfl, hz⟩; replace hz := hz.symm; subst hz
   go_wp2_with fail
   refine Calls.mono (HD.out _) ?_; rintro e z0 ⟨rfl, hz⟩; replace hz := hz.symm; subst hz
   go_wp2
   go_end0
   exact ⟨rfl, HZ.out⟩
theorem rout_ok (h : DW w S L x) (k : x.Ok) (p : Int) (p0 : 0 ≤ p) (p1 : p < 65536) (v : Int) (hv : Byt v) (hw : x.wk + 4 < 9007199254740) : Calls Tryz.prog 80 #[.pointer (some ⟨L.B, 0, none⟩), .int .u16 p, .int .u8 v] w fun e w' => e = .returned (.tuple #[]) ∧ DNx w S L (x.outD v (portOf p)) w' := by
 cases hp : portOf p with
 | none => exact (rout_none h p p0 p1 hp v).mono fun e w' q => q
 | some q =>
  cases way hp with
  | pic a hc a0 a1 h4 =>
   rcases h4 with rfl | rfl | rfl | rfl
   ·rw [show a = 0 from hc.symm]; exact rout_pic32 h k v hv hw
   ·rw [show a = 1 from hc.symm]; exact rout_pic33 h k v hv hw
   ·rw [show a = 2 from hc.symm]; exact rout_pic160 h k v hv hw
   ·rw [show a = 3 from hc.symm]; exact rout_pic161 h k v hv hw
  | pit h0 h1 => exact rout_pit h k p h0 h1 v hv hw
  | uart h0 h1 => exact rout_uart h k p h0 h1 v hv hw
  | ide h0 h1 => exact rout_ide h k p h0 h1 v hv hw
  | ctl h1 => subst h1; exact rout_ctl h k v hv hw
  | gate h1 => subst h1; exact rout_gate h k v hv hw
end
section
variable {w : World} {S : Nat → Prop} {L : LocR} {x : Bm}
set_option maxHeartbeats 2000000 in
theorem rin_pic32 (h : DW w S L x) (k : x.Ok) : Calls Tryz.prog 82 #[.pointer (some ⟨L.B, 0, none⟩), .int .u16 32] w fun e w' => e = .returned (.int .u8 (x.inDV (some (.pic, 0)))) ∧ DNx w S L (x.inD (some (.pic, 0))) w' := by
 have HC : Hid (∀ w, _) := fun w => chip_any w 32 (by omega) (by omega)
 have HD : Hid (∀ w, _) := fun w => disk_any w 32 (by omega) (by omega)
 rw [show chipV 32 = 0 from rfl] at HC
 rw [show diskV 32 = -1 from rfl] at HD
 have HA : Hid (∀ W S, DW W S L x → Calls Tryz.prog 130 #[.pointer (some ⟨L.P, 0, none⟩), .int .i64 0] W fun e w' => e = .returned (.tuple #[.int .u8 (x.inDV (some (.pic, 0))), .int .i64 0]) ∧ DNx W S L (x.inD (some (.pic, 0))) w') := fun W S h => dPicK h (fun T q => Pc.sIn W L.P _ T q 0 (by decide) (by decide))
 have P0 : Hid (DW w S L x) := h
 have c1 := h.c1
 clear h k
 generalize x.inD (some (.pic, 0)) = X at *
 generalize x.inDV (some (.pic, 0)) = Y at *
 go_enter Tryz.func82, Tryz.ntmps82
 go_wp2_with fail
 refine Calls.mono (HC.out _) ?_; rintro e z0 ⟨rfl, hz⟩; replace hz := hz.symm; subst hz
 go_wp2_with fail
 refine Calls.mono (HD.out _) ?_; rintro e z0 ⟨rfl, hz⟩; replace hz := hz.symm; subst hz
 go_wp2_with fail
 refine Calls.mono (HA.out _ _ P0.out) ?_; rintro e z1 ⟨rfl, hz⟩
 have HZ : Hid _ := hz
 clear hz P0 HA HC HD c1
 go_wp2
 go_ret
 exact ⟨rfl, HZ.out⟩
set_option maxHeartbeats 2000000 in
theorem rin_pic33 (h : DW w S L x) (k : x.Ok) : Calls Tryz.prog 82 #[.pointer (some ⟨L.B, 0, none⟩), .int .u16 33] w fun e w' => e = .returned (.int .u8 (x.inDV (some (.pic, 1)))) ∧ DNx w S L (x.inD (some (.pic, 1))) w' := by
 have HC : Hid (∀ w, _) := fun w => chip_any w 33 (by omega) (by omega)
 have HD : Hid (∀ w, _) := fun w => disk_any w 33 (by omega) (by omega)
 rw [show chipV 33 = 1 from rfl] at HC
 rw [show diskV 33 = -1 from rfl] at HD
 have HA : Hid (∀ W S, DW W S L x → Calls Tryz.prog 130 #[.pointer (some ⟨L.P, 0, none⟩), .int .i64 1] W fun e w' => e = .returned (.tuple #[.int .u8 (x.inDV (some (.pic, 1))), .int .i64 0]) ∧ DNx W S L (x.inD (some (.pic, 1))) w') := fun W S h => dPicK h (fun T q => Pc.sIn W L.P _ T q 1 (by decide) (by decide))
 have P0 : Hid (DW w S L x) := h
 have c1 := h.c1
 clear h k
 generalize x.inD (some (.pic, 1)) = X at *
 generalize x.inDV (some (.pic, 1)) = Y at *
 go_enter Tryz.func82, Tryz.ntmps82
 go_wp2_with fail
 refine Calls.mono (HC.out _) ?_; rintro e z0 ⟨rfl, hz⟩; replace hz := hz.symm; subst hz
 go_wp2_with fail
 refine Calls.mono (HD.out _) ?_; rintro e z0 ⟨rfl, hz⟩; replace hz := hz.symm; subst hz
 go_wp2_with fail
 refine Calls.mono (HA.out _ _ P0.out) ?_; rintro e z1 ⟨rfl, hz⟩
 have HZ : Hid _ := hz
 clear hz P0 HA HC HD c1
 go_wp2
 go_ret
 exact ⟨rfl, HZ.out⟩
set_option maxHeartbeats 2000000 in
theorem rin_pic160 (h : DW w S L x) (k : x.Ok) : Calls Tryz.prog 82 #[.pointer (some ⟨L.B, 0, none⟩), .int .u16 160] w fun e w' => e = .returned (.int .u8 (x.inDV (some (.pic, 2)))) ∧ DNx w S L (x.inD (some (.pic, 2))) w' := by
 have HC : Hid (∀ w, _) := fun w => chip_any w 160 (by omega) (by omega)
 have HD : Hid (∀ w, _) := fun w => disk_any w 160 (by omega) (by omega)
 rw [show chipV 160 = 2 from rfl] at HC
 rw [show diskV 160 = -1 from rfl] at HD
 have HA : Hid (∀ W S, DW W S L x → Calls Tryz.prog 130 #[.pointer (some ⟨L.P, 0, none⟩), .int .i64 2] W fun e w' => e = .returned (.tuple #[.int .u8 (x.inDV (some (.pic, 2))), .int .i64 0]) ∧ DNx W S L (x.inD (some (.pic, 2))) w') := fun W S h => dPicK h (fun T q => Pc.sIn W L.P _ T q 2 (by decide) (by decide))
 have P0 : Hid (DW w S L x) := h
 have c1 := h.c1
 clear h k
 generalize x.inD (some (.pic, 2)) = X at *
 generalize x.inDV (some (.pic, 2)) = Y at *
 go_enter Tryz.func82, Tryz.ntmps82
 go_wp2_with fail
 refine Calls.mono (HC.out _) ?_; rintro e z0 ⟨rfl, hz⟩; replace hz := hz.symm; subst hz
 go_wp2_with fail
 refine Calls.mono (HD.out _) ?_; rintro e z0 ⟨rfl, hz⟩; replace hz := hz.symm; subst hz
 go_wp2_with fail
 refine Calls.mono (HA.out _ _ P0.out) ?_; rintro e z1 ⟨rfl, hz⟩
 have HZ : Hid _ := hz
 clear hz P0 HA HC HD c1
 go_wp2
 go_ret
 exact ⟨rfl, HZ.out⟩
set_option maxHeartbeats 2000000 in
theorem rin_pic161 (h : DW w S L x) (k : x.Ok) : Calls Tryz.prog 82 #[.pointer (some ⟨L.B, 0, none⟩), .int .u16 161] w fun e w' => e = .returned (.int .u8 (x.inDV (some (.pic, 3)))) ∧ DNx w S L (x.inD (some (.pic, 3))) w' := by
 have HC : Hid (∀ w, _) := fun w => chip_any w 161 (by omega) (by omega)
 have HD : Hid (∀ w, _) := fun w => disk_any w 161 (by omega) (by omega)
 rw [show chipV 161 = 3 from rfl] at HC
 rw [show diskV 161 = -1 from rfl] at HD
 have HA : Hid (∀ W S, DW W S L x → Calls Tryz.prog 130 #[.pointer (some ⟨L.P, 0, none⟩), .int .i64 3] W fun e w' => e = .returned (.tuple #[.int .u8 (x.inDV (some (.pic, 3))), .int .i64 0]) ∧ DNx W S L (x.inD (some (.pic, 3))) w') := fun W S h => dPicK h (fun T q => Pc.sIn W L.P _ T q 3 (by decide) (by decide))
 have P0 : Hid (DW w S L x) := h
 have c1 := h.c1
 clear h k
 generalize x.inD (some (.pic, 3)) = X at *
 generalize x.inDV (some (.pic, 3)) = Y at *
 go_enter Tryz.func82, Tryz.ntmps82
 go_wp2_with fail
 refine Calls.mono (HC.out _) ?_; rintro e z0 ⟨rfl, hz⟩; replace hz := hz.symm; subst hz
 go_wp2_with fail
 refine Calls.mono (HD.out _) ?_; rintro e z0 ⟨rfl, hz⟩; replace hz := hz.symm; subst hz
 go_wp2_with fail
 refine Calls.mono (HA.out _ _ P0.out) ?_; rintro e z1 ⟨rfl, hz⟩
 have HZ : Hid _ := hz
 clear hz P0 HA HC HD c1
 go_wp2
 go_ret
 exact ⟨rfl, HZ.out⟩
set_option maxHeartbeats 2000000 in
theorem rin_pit (h : DW w S L x) (k : x.Ok) (p : Int) (h0 : 64 ≤ p) (h1 : p < 68) : Calls Tryz.prog 82 #[.pointer (some ⟨L.B, 0, none⟩), .int .u16 p] w fun e w' => e = .returned (.int .u8 (x.inDV (some (.pit, p - 64)))) ∧ DNx w S L (x.inD (some (.pit, p - 64))) w' := by
 have HC : Hid (∀ w, _) := fun w => chip_any w p (by omega) (by omega)
 have HD : Hid (∀ w, _) := fun w => disk_any w p (by omega) (by omega)
 rw [show chipV p = -1 from no_chip (by omega)] at HC
 rw [show diskV p = -1 from no_disk (by omega) (by omega)] at HD
 have q7 : (p == 146) = false := by rw [beq_eq_false_iff_ne]; omega
 have u1 : ¬ 1016 ≤ p := by omega
 have HA : Hid (∀ W S, DW W S L x → Calls Tryz.prog 131 #[.pointer (some ⟨L.T, 0, none⟩), .int .i64 (p - 64), .int .u64 x.now] W fun e w' => e = .returned (.tuple #[.int .u8 (Pt.innV x.f (p - 64) x.now), .int .i64 0]) ∧ DNx W S L { x with f := Pt.innF x.f (p - 64) } w') := fun W S h => dPit h (fun q => Pt.xIn W L.T x.f q (p - 64) x.now (by omega) (by omega))
 have P0 : Hid (DW w S L x) := h
 have CA : Hid (∀ W S f, DW W S L { x with f := f } → W.cell? ⟨L.B, 2, none⟩ = some (.pointer (some ⟨L.T, 0, none⟩)) ∧ W.cell? ⟨L.B, 5, none⟩ = some (.int .u64 x.now)) := fun W S m h => ⟨h.c2, h.c5⟩
 have PD : Hid (DW w.drew S L x) := h.drew
 have N0 : Hid (Nx w S w.drew S) := Nx.keep (Kp.refl _ _).drew
 have S0 : Hid _ := CA.out _ _ _ PD.out
 obtain ⟨a, ha⟩ : ∃ a, a = p - 64 := ⟨_, rfl⟩
 have a0 : 0 ≤ a := by omega
 have a1 : a < 4 := by omega
 have f1 : IntKind.u16.wrap (p - 64) = a := by rw [IntKind.wrap_u16]; omega
 have f2 : (p - 64) % 65536 = a := by omega
 have f3 : p - 64 = a := ha.symm
 have f5 : IntKind.u16.wrap a = a := by rw [IntKind.wrap_u16]; omega
 have f6 : a % 65536 = a := by omega
 have f7 : IntKind.i64.wrap a = a := by rw [IntKind.wrap_i64]; omega
 rw [← ha] at HA ⊢
 clear ha
 show Calls _ _ _ _ fun e w' => e = .returned (.int .u8 (Pt.innV x.f a x.now)) ∧ DNx w S L { x with f := Pt.innF x.f a } w'
 generalize Pt.innF x.f a = f' at *
 generalize Pt.innV x.f a x.now = Y at *
 clear h k P0
 go_enter Tryz.func82, Tryz.ntmps82
 go_wp2_with fail
 refine Calls.mono (HC.out _) ?_; rintro e z0 ⟨rfl, hz⟩; replace hz := hz.symm; subst hz
 go_wp2_with fail
 refine Calls.mono (HD.out _) ?_; rintro e z0 ⟨rfl, hz⟩; replace hz := hz.symm; subst hz
 go_wp2
 go_region_held3 (fun W => W.cell? ⟨L.B, 2, none⟩ = some (.pointer (some ⟨L.T, 0, none⟩)) ∧ W.cell? ⟨L.B, 5, none⟩ = some (.int .u64 x.now))
  (first | exact S0.out | exact CA.out _ _ _ (by assumption) | assumption)
  (first | (go_at_call 131; refine Calls.mono (HA.out _ _ PD.out) ?_; rintro e z1 ⟨rfl, S1, p1, n1⟩))
 have HZ : Hid (DNx w S L { x with f := f' } z1) := ⟨S1, p1, N0.out.trans n1⟩
 clear p1 n1 S0 PD N0 HA CA HC HD
 go_wp2
 go_ret
 exact ⟨rfl, HZ.out⟩
set_option maxHeartbeats 2000000 in
theorem rin_uart (h : DW w S L x) (k : x.Ok) (p : Int) (h0 : 1016 ≤ p) (h1 : p < 1024) : Calls Tryz.prog 82 #[.pointer (some ⟨L.B, 0, none⟩), .int .u16 p] w fun e w' => e = .returned (.int .u8 (x.inDV (some (.uart, p - 1016)))) ∧ DNx w S L (x.inD (some (.uart, p - 1016))) w' := by
 have HC : Hid (∀ w, _) := fun w => chip_any w p (by omega) (by omega)
 have HD : Hid (∀ w, _) := fun w => disk_any w p (by omega) (by omega)
 rw [show chipV p = -1 from no_chip (by omega)] at HC
 rw [show diskV p = -1 from no_disk (by omega) (by omega)] at HD
 have q7 : (p == 146) = false := by rw [beq_eq_false_iff_ne]; omega
 have t1 : 64 ≤ p := by omega
 have t2 : ¬ p < 68 := by omega
 have f1 : IntKind.u16.wrap (p - 1016) = p - 1016 := by rw [IntKind.wrap_u16]; omega
 have f2 : (p - 1016) % 65536 = p - 1016 := by omega
 have HA : Hid (∀ W S, DW W S L x → Calls Tryz.prog 132 #[.pointer (some ⟨L.U, 0, none⟩), .int .i64 (p - 1016)] W fun e w' => e = .returned (.tuple #[.int .u8 (x.inDV (some (.uart, p - 1016))), .int .i64 0]) ∧ DNx W S L (x.inD (some (.uart, p - 1016))) w') := fun W S h => dUart (E := fun e => e = .returned (.tuple #[.int .u8 (x.u.inV (p - 1016)), .int .i64 0])) h (fun T q => by
  have := Ut.xIn q k.u (p - 1016)
  rwa [if_pos (by omega), if_pos (by omega), if_pos (by omega)] at this)
 have P0 : Hid (DW w S L x) := h
 have c3 := h.c3
 clear h k
 generalize x.inD (some (.uart, p - 1016)) = X at *
 generalize x.inDV (some (.uart, p - 1016)) = Y at *
 go_enter Tryz.func82, Tryz.ntmps82
 go_wp2_with fail
 refine Calls.mono (HC.out _) ?_; rintro e z0 ⟨rfl, hz⟩; replace hz := hz.symm; subst hz
 go_wp2_with fail
 refine Calls.mono (HD.out _) ?_; rintro e z0 ⟨rfl, hz⟩; replace hz := hz.symm; subst hz
 go_wp2_with fail
 refine Calls.mono (HA.out _ _ P0.out) ?_; rintro e z1 ⟨rfl, hz⟩
 have HZ : Hid _ := hz
 clear hz P0 HA HC HD c3
 go_wp2
 go_ret
 exact ⟨rfl, HZ.out⟩
set_option maxHeartbeats 2000000 in
theorem rin_ide (h : DW w S L x) (k : x.Ok) (p : Int) (h0 : 496 ≤ p) (h1 : p < 504) : Calls Tryz.prog 82 #[.pointer (some ⟨L.B, 0, none⟩), .int .u16 p] w fun e w' => e = .returned (.int .u8 (x.inDV (some (.ide, p - 496)))) ∧ DNx w S L (x.inD (some (.ide, p - 496))) w' := by
 have HC : Hid (∀ w, _) := fun w => chip_any w p (by omega) (by omega)
 have HD : Hid (∀ w, _) := fun w => disk_any w p (by omega) (by omega)
 rw [show chipV p = -1 from no_chip (by omega)] at HC
 rw [show diskV p = p - 496 from by unfold diskV; rw [if_pos ⟨h0, h1⟩]] at HD
 have q7 : (p == 146) = false := by rw [beq_eq_false_iff_ne]; omega
 have t1 : 64 ≤ p := by omega
 have t2 : ¬ p < 68 := by omega
 have u1 : ¬ 1016 ≤ p := by omega
 have dg : p - 496 ≥ 0 := by omega
 have yn := ide_nn k.d (p - 496)
 have HA : Hid (∀ W S, DW W S L x → Calls Tryz.prog 81 #[.pointer (some ⟨L.I, 0, none⟩), .int .i64 (p - 496), .int .i64 1] W fun e w' => e = .returned (.tuple #[.int .u32 (x.d.iV (p - 496) 1), .int .i64 (Dk.ck (p - 496) 1)]) ∧ DNx W S L (x.inD (some (.ide, p - 496))) w') := fun W S h => dIde h (fun T q => Dk.xIn q k.d (p - 496) 1)
 have P0 : Hid (DW w S L x) := h
 have c4 := h.c4
 clear h k
 show Calls _ _ _ _ fun e w' => e = .returned (.int .u8 (x.d.iV (p - 496) 1 % 256)) ∧ DNx w S L (x.inD (some (.ide, p - 496))) w'
 generalize x.inD (some (.ide, p - 496)) = X at *
 generalize Dk.ck (p - 496) 1 = Y at *
 generalize x.d.iV (p - 496) 1 = Z at *
 go_enter Tryz.func82, Tryz.ntmps82
 go_wp2_with fail
 refine Calls.mono (HC.out _) ?_; rintro e z0 ⟨rfl, hz⟩; replace hz := hz.symm; subst hz
 go_wp2_with fail
 refine Calls.mono (HD.out _) ?_; rintro e z0 ⟨rfl, hz⟩; replace hz := hz.symm; subst hz
 go_wp2_with fail
 refine Calls.mono (HA.out _ _ P0.out) ?_; rintro e z1 ⟨rfl, hz⟩
 have HZ : Hid _ := hz
 clear hz P0 HA HC HD c4
 go_wp2
 go_ret
 exact ⟨rfl, HZ.out⟩
set_option maxHeartbeats 2000000 in
theorem rin_ctl (h : DW w S L x) (k : x.Ok) : Calls Tryz.prog 82 #[.pointer (some ⟨L.B, 0, none⟩), .int .u16 1014] w fun e w' => e = .returned (.int .u8 (x.inDV (some (.ide, 8)))) ∧ DNx w S L (x.inD (some (.ide, 8))) w' := by
 have HC : Hid (∀ w, _) := fun w => chip_any w 1014 (by omega) (by omega)
 have HD : Hid (∀ w, _) := fun w => disk_any w 1014 (by omega) (by omega)
 rw [show chipV 1014 = -1 from rfl] at HC
 rw [show diskV 1014 = 8 from rfl] at HD
 have yn := ide_nn k.d (8)
 have HA : Hid (∀ W S, DW W S L x → Calls Tryz.prog 81 #[.pointer (some ⟨L.I, 0, none⟩), .int .i64 (8), .int .i64 1] W fun e w' => e = .returned (.tuple #[.int .u32 (x.d.iV (8) 1), .int .i64 (Dk.ck (8) 1)]) ∧ DNx W S L (x.inD (some (.ide, 8))) w') := fun W S h => dIde h (fun T q => Dk.xIn q k.d (8) 1)
 have P0 : Hid (DW w S L x) := h
 have c4 := h.c4
 clear h k
 show Calls _ _ _ _ fun e w' => e = .returned (.int .u8 (x.d.iV (8) 1 % 256)) ∧ DNx w S L (x.inD (some (.ide, 8))) w'
 generalize x.inD (some (.ide, 8)) = X at *
 generalize Dk.ck (8) 1 = Y at *
 generalize x.d.iV (8) 1 = Z at *
 go_enter Tryz.func82, Tryz.ntmps82
 go_wp2_with fail
 refine Calls.mono (HC.out _) ?_; rintro e z0 ⟨rfl, hz⟩; replace hz := hz.symm; subst hz
 go_wp2_with fail
 refine Calls.mono (HD.out _) ?_; rintro e z0 ⟨rfl, hz⟩; replace hz := hz.symm; subst hz
 go_wp2_with fail
 refine Calls.mono (HA.out _ _ P0.out) ?_; rintro e z1 ⟨rfl, hz⟩
 have HZ : Hid _ := hz
 clear hz P0 HA HC HD c4
 go_wp2
 go_ret
 exact ⟨rfl, HZ.out⟩
set_option maxHeartbeats 2000000 in
theorem rin_gate (h : DW w S L x) (k : x.Ok) : Calls Tryz.prog 82 #[.pointer (some ⟨L.B, 0, none⟩), .int .u16 146] w fun e w' => e = .returned (.int .u8 (x.inDV (some (.gate, 0)))) ∧ DNx w S L (x.inD (some (.gate, 0))) w' := by
 have HC : Hid (∀ w, _) := fun w => chip_any w 146 (by omega) (by omega)
 have HD : Hid (∀ w, _) := fun w => disk_any w 146 (by omega) (by omega)
 rw [show chipV 146 = -1 from rfl] at HC
 rw [show diskV 146 = -1 from rfl] at HD
 have c0 := h.c0
 have m4 := h.m4
 have HZ : Hid (DNx w S L (x.inD (some (.gate, 0))) w) := .refl h
 show Calls _ _ _ _ fun e w' => e = .returned (.int .u8 (gateV x.cl)) ∧ DNx w S L (x.inD (some (.gate, 0))) w'
 unfold gateV
 clear h k
 generalize x.inD (some (.gate, 0)) = X at *
 cases hc : x.cl <;> rw [hc] at m4
 ·skip
  go_enter Tryz.func82, Tryz.ntmps82
  go_wp2_with fail
  refine Calls.mono (HC.out _) ?_; rintro e z0 ⟨rfl, hz⟩; replace hz := hz.symm; subst hz
  go_wp2_with fail
  refine Calls.mono (HD.out _) ?_; rintro e z0 ⟨rfl, hz⟩; replace hz := hz.symm; subst hz
  clear HC HD
  go_wp2
  go_ret
  exact ⟨rfl, HZ.out⟩
 ·skip
  go_enter Tryz.func82, Tryz.ntmps82
  go_wp2_with fail
  refine Calls.mono (HC.out _) ?_; rintro e z0 ⟨rfl, hz⟩; replace hz := hz.symm; subst hz
  go_wp2_with fail
  refine Calls.mono (HD.out _) ?_; rintro e z0 ⟨rfl, hz⟩; replace hz := hz.symm; subst hz
  clear HC HD
  go_wp2
  go_ret
  exact ⟨rfl, HZ.out⟩
theorem rin_none (h : DW w S L x) (p : Int) (p0 : 0 ≤ p) (p1 : p < 65536) (hp : portOf p = none) : Calls Tryz.prog 82 #[.pointer (some ⟨L.B, 0, none⟩), .int .u16 p] w fun e w' => e = .returned (.int .u8 255) ∧ DNx w S L x w' := by
 obtain ⟨e1, e2, e3, e4, e5⟩ := no_way hp
 have HC : Hid (∀ w, _) := fun w => chip_any w p p0 p1
 have HD : Hid (∀ w, _) := fun w => disk_any w p p0 p1
 rw [e1] at HC
 rw [e2] at HD
 have HZ : Hid (DNx w S L x w) := .refl h
 have q7 : (p == 146) = false := by rw [beq_eq_false_iff_ne]; exact e5
 clear h e1 e2 e5 hp
 rcases (by omega : ¬ 64 ≤ p ∨ (64 ≤ p ∧ ¬ p < 68)) with t1 | ⟨t1, t2⟩
 ·have u1 : ¬ 1016 ≤ p := by omega
  clear e3 e4
  go_enter Tryz.func82, Tryz.ntmps82
  go_wp2_with fail
  refine Calls.mono (HC.out _) ?_; rintro e z0 ⟨rfl, hz⟩; replace hz := hz.symm; subst hz
  go_wp2_with fail
  refine Calls.mono (HD.out _) ?_; rintro e z0 ⟨rfl, hz⟩; replace hz := hz.symm; subst hz
  go_wp2
  go_ret
  exact ⟨rfl, HZ.out⟩
 ·rcases (by omega : ¬ 1016 ≤ p ∨ (1016 ≤ p ∧ ¬ p < 1024)) with u1 | ⟨u1, u2⟩
  ·clear e3 e4
   go_enter Tryz.func82, Tryz.ntmps82
   go_wp2_with fail
   refine Calls.mono (HC.out _) ?_; rintro e z0 ⟨rfl, hz⟩; replace hz := hz.symm; subst hz
   go_wp2_with fail
   refine Calls.mono (HD.out _) ?_; rintro e z0 ⟨rfl, hz⟩; replace hz := hz.symm; subst hz
   go_wp2
   go_ret
   exact ⟨rfl, HZ.out⟩
  ·clear e3 e4
   go_enter Tryz.func82, Tryz.ntmps82
   go_wp2_with fail
   refine Calls.mono (HC.out _) ?_; rintro e z0 ⟨rfl, hz⟩; replace hz := hz.symm; subst hz
   go_wp2_with fail
   refine Calls.mono (HD.out _) ?_; rintro e z0 ⟨rfl, hz⟩; replace hz := hz.symm; subst hz
   go_wp2
   go_ret
   exact ⟨rfl, HZ.out⟩
theorem rin_ok (h : DW w S L x) (k : x.Ok) (p : Int) (p0 : 0 ≤ p) (p1 : p < 65536) : Calls Tryz.prog 82 #[.pointer (some ⟨L.B, 0, none⟩), .int .u16 p] w fun e w' => e = .returned (.int .u8 (x.inDV (portOf p))) ∧ DNx w S L (x.inD (portOf p)) w' := by
 cases hp : portOf p with
 | none => exact (rin_none h p p0 p1 hp).mono fun e w' q => q
 | some q =>
  cases way hp with
  | pic a hc a0 a1 h4 =>
   rcases h4 with rfl | rfl | rfl | rfl
   ·rw [show a = 0 from hc.symm]; exact rin_pic32 h k
   ·rw [show a = 1 from hc.symm]; exact rin_pic33 h k
   ·rw [show a = 2 from hc.symm]; exact rin_pic160 h k
   ·rw [show a = 3 from hc.symm]; exact rin_pic161 h k
  | pit h0 h1 => exact rin_pit h k p h0 h1
  | uart h0 h1 => exact rin_uart h k p h0 h1
  | ide h0 h1 => exact rin_ide h k p h0 h1
  | ctl h1 => subst h1; exact rin_ctl h k
  | gate h1 => subst h1; exact rin_gate h k
end
def pi (p : Int) (i : Nat) : Int := (p + i) % 65536
theorem pi_0 {p : Int} (p0 : 0 ≤ p) (p1 : p < 65536) : pi p 0 = p := by unfold pi; omega
theorem pi_bd (p : Int) (i : Nat) : 0 ≤ pi p i ∧ pi p i < 65536 := by unfold pi; omega
theorem nxt_pi (p : Int) (i : Nat) : nxt (pi p i) = pi p (i + 1) := by unfold pi nxt; omega
def bN (x : Bm) (p : Int) : Nat → Bm
 | 0 => x
 | i + 1 => (bN x p i).in1 (pi p i)
theorem bN_ok {x : Bm} (k : x.Ok) (p : Int) : ∀ i, (bN x p i).Ok
 | 0 => k
 | i + 1 => (bN_ok k p i).inD _
theorem inN_bN : ∀ (n : Nat) (x : Bm) (p : Int) (i : Nat), Bm.inN n (bN x p i) (pi p i) = bN x p (i + n)
 | 0, _, _, _ => rfl
 | n + 1, x, p, i => by
  show Bm.inN n ((bN x p i).in1 (pi p i)) (nxt (pi p i)) = _
  rw [nxt_pi, show (bN x p i).in1 (pi p i) = bN x p (i + 1) from rfl, inN_bN n x p (i + 1), show i + 1 + n = i + (n + 1) by omega]
theorem inVN_bN (n : Nat) (x : Bm) (p : Int) (i : Nat) : Bm.inVN (n + 1) (bN x p i) (pi p i) = (bN x p i).inV1 (pi p i) + 256 * Bm.inVN n (bN x p (i + 1)) (pi p (i + 1)) := by
 show (bN x p i).inV1 (pi p i) + 256 * Bm.inVN n ((bN x p i).in1 (pi p i)) (nxt (pi p i)) = _
 rw [nxt_pi]
 rfl
def oB (x : Bm) (p v : Int) : Nat → Bm
 | 0 => x
 | i + 1 => (oB x p v i).out1 (pi p i) (v / 256 ^ i % 256)
theorem outN_oB : ∀ (n : Nat) (x : Bm) (p v : Int) (i : Nat), Bm.outN n (oB x p v i) (pi p i) (v / 256 ^ i) = oB x p v (i + n)
 | 0, _, _, _, _ => rfl
 | n + 1, x, p, v, i => by
  have e : v / 256 ^ i / 256 = v / 256 ^ (i + 1) := by rw [Int.ediv_ediv_of_nonneg (Int.pow_nonneg (by decide)), Int.pow_succ]
  show Bm.outN n ((oB x p v i).out1 (pi p i) (v / 256 ^ i % 256)) (nxt (pi p i)) (v / 256 ^ i / 256) = _
  rw [nxt_pi, e, show (oB x p v i).out1 (pi p i) (v / 256 ^ i % 256) = oB x p v (i + 1) from rfl, outN_oB n x p v (i + 1), show i + 1 + n = i + (n + 1) by omega]
end Go.Proofs.YtonfjhbfkichkaaGreat.Bs
