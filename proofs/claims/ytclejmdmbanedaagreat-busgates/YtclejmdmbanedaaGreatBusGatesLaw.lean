/- The walk of BusGates. -/
import Derived.Test.YtclejmdmbanedaaGreatBp35
namespace Go.Proofs.YtclejmdmbanedaaGreat.Bs
open Go.ChangeShapes Go.WideShapes Go.ChangeAt Go.RowKit
open Go.Proofs.YtclejmdmbanedaaGreat.Ut (Kp heap_lt heap_kept heap_set heap_new noB isB kpB)
set_option linter.unusedVariables false
set_option maxRecDepth 20000

open Go.Proofs.YtclejmdmbanedaaGreat.Rm (Mem)

theorem lay1 (M : Mem) (a v : Int) (hv : Byt v) : M.lay false a ((Rm.bytesV v).take (1 : Int).toNat) = M.put false a v := by
  have e : v % 256 = v := by have := hv.1; have := hv.2; omega
  show M.put false a (v % 256) = _
  rw [e]

theorem put_byte (M : Mem) (hn : M.n = 256) (ho : ∀ i, M.only i = false) {a v : Int} (a0 : 0 ≤ M.place a) (a1 : M.place a < 1048576) : (M.put false a v).byte (M.place a).toNat = v := by
  unfold Rm.Mem.put
  rw [if_pos (by rw [hn]; exact ⟨by omega, .inr (ho _)⟩)]
  simp

theorem put_far (M : Mem) (hn : M.n = 256) {a v : Int} (a1 : 1048576 ≤ M.place a) : M.put false a v = M := by
  unfold Rm.Mem.put
  rw [if_neg (by rw [hn]; omega)]

theorem read1 (M : Mem) {a : Int} (a0 : 0 ≤ a) (a1 : a < 4294967296) : M.read a 1 = M.rd a := by
  have e : (a + ((0 : Nat) : Int)) % 4294967296 = a := by omega
  show Rm.cellB M a 1 0 + 0 * 256 + 0 * 65536 + 0 * 16777216 = _
  show M.rd ((a + ((0 : Nat) : Int)) % 4294967296) + 0 * 256 + 0 * 65536 + 0 * 16777216 = _
  rw [e]
  omega

def setC (M : Mem) (b : Bool) : Mem := { M with closed := b }

theorem place_open {M : Mem} (h : M.closed = false) (a : Int) : M.place a = a := by
  unfold Rm.Mem.place
  rw [if_neg (by rw [h]; rintro ⟨q, _⟩; cases q)]
theorem place_shut {M : Mem} (h : M.closed = true) {a : Int} (a0 : 0 ≤ a) (a1 : a < 1048576) : M.place (a + 1048576) = a ∧ M.place a = a := by
  unfold Rm.Mem.place
  refine ⟨?_, ?_⟩
  · rw [if_pos ⟨h, by omega⟩]; omega
  · rw [if_neg (by rintro ⟨_, q⟩; omega)]

/-- What is read, with the gate open: nothing; with it closed: the other place. -/
theorem gate_open {a x y : Int} (a0 : 0 ≤ a) (a1 : a < 1048576) : (setC (((Rm.mem0 256).put false a x).put false (a + 1048576) y) false).read (a + 1048576) 1 = 255 := by
  rw [read1 _ (by omega) (by omega)]
  unfold Rm.Mem.rd
  rw [place_open rfl, if_neg]
  show ¬ a + 1048576 < 4096 * (((((Rm.mem0 256).put false a x).put false (a + 1048576) y).n : Nat) : Int)
  rw [Rm.put_n, Rm.put_n]
  show ¬ a + 1048576 < 4096 * ((256 : Nat) : Int)
  omega

theorem gate_shut {a x y : Int} (a0 : 0 ≤ a) (a1 : a < 1048576) : (setC (((Rm.mem0 256).put false a x).put false (a + 1048576) y) true).read (a + 1048576) 1 = x ∧ ((setC (((Rm.mem0 256).put false a x).put false (a + 1048576) y) true).put false (a + 1048576) y).read a 1 = y := by
  have p1 : (Rm.mem0 256).place a = a := place_open rfl a
  have p2 : ((Rm.mem0 256).put false a x).place (a + 1048576) = a + 1048576 := by rw [Rm.put_place]; exact place_open rfl _
  rw [put_far _ (by rw [Rm.put_n]; rfl) (by rw [p2]; omega)]
  obtain ⟨M, hM⟩ : ∃ M, M = setC ((Rm.mem0 256).put false a x) true := ⟨_, rfl⟩
  have q := place_shut (M := M) (by rw [hM]; rfl) a0 a1
  have n1 : M.n = 256 := by rw [hM]; show ((Rm.mem0 256).put false a x).n = 256; rw [Rm.put_n]; rfl
  have o1 : ∀ i, M.only i = false := fun i => by rw [hM]; show ((Rm.mem0 256).put false a x).only i = false; rw [Rm.put_only]; rfl
  have b1 : M.byte a.toNat = x := by
    rw [hM]
    have := put_byte (Rm.mem0 256) rfl (fun _ => rfl) (a := a) (v := x) (by rw [p1]; exact a0) (by rw [p1]; exact a1)
    rw [p1] at this
    exact this
  rw [← hM]
  refine ⟨?_, ?_⟩
  · rw [read1 _ (by omega) (by omega)]
    unfold Rm.Mem.rd
    rw [q.1, if_pos (by rw [n1]; omega), b1]
  · rw [read1 _ (by omega) (by omega)]
    unfold Rm.Mem.rd
    rw [Rm.put_place, q.2, Rm.put_n, if_pos (by rw [n1]; omega)]
    have := put_byte M n1 o1 (a := a + 1048576) (v := y) (by rw [q.1]; exact a0) (by rw [q.1]; exact a1)
    rw [q.1] at this
    exact this

section
variable {W w : World} {Rs : Nat → Res} {i : Nat} {L : Loc} {x : Bm}
theorem rWrite (h : Hs W w (updR Rs i (busR L x))) (a v : Int) (a0 : 0 ≤ a) (a1 : a < 4294967296) (hv : Byt v) : Calls Tryz.prog 18 #[.pointer (some ⟨L.M + 3, 0, none⟩), .int .u32 a, .int .i64 1, .int .u32 v] w fun e w' => e = .returned (.int .i64 0) ∧ Hs W w' (updR Rs i (busR L { x with m := x.m.put false a v })) := h.bus' fun S b => bRam b (by rw [Rm.put_n]) fun q => by
  have := Rm.write_ok w L.M x.m q a 1 v a0 a1 hv.1 (by have := hv.2; omega) rfl
  rw [lay1 _ _ _ hv] at this
  exact this
theorem rRead (h : Hs W w (updR Rs i (busR L x))) (a : Int) (a0 : 0 ≤ a) (a1 : a < 4294967296) : Calls Tryz.prog 19 #[.pointer (some ⟨L.M + 3, 0, none⟩), .int .u32 a, .int .i64 1] w fun e w' => e = .returned (.tuple #[.int .u32 (x.m.read a 1), .int .i64 0]) ∧ Hs W w' (updR Rs i (busR L x)) := h.bus' fun S b => bRamK b fun q => Rm.read_ok w L.M x.m q a 1 a0 a1 rfl
end

theorem out_gate (x : Bm) (v : Int) (hv : Byt v) : x.out 146 1 v = ({ x with cl := shutV v, m := setC x.m (shutV v) } : Bm).tell := by
  have e : v % 256 = v := by have := hv.1; have := hv.2; omega
  unfold Bm.out
  rw [if_pos (by decide)]
  show (Bm.put x 146 1 v).tell = _
  unfold Bm.put
  rw [if_neg (by decide)]
  show (x.outD (v % 256) (portOf 146)).tell = _
  rw [e]
  rfl
theorem in_gate (x : Bm) : x.innV 146 1 = gateV x.cl := by
  unfold Bm.innV
  rw [if_pos (by decide)]
  unfold Bm.gotV
  rw [if_neg (by decide)]
  show gateV x.cl + 256 * 0 = _
  omega
theorem in_gate_m (x : Bm) : (x.inn 146 1).m = x.m := rfl

set_option maxHeartbeats 2000000 in
theorem BusGates_walk (W : World) (at_ : Int) (at0 : 0 ≤ at_) (at1 : at_ ≤ 4294967295) (a : Int) (b0 : 0 ≤ a) (b1 : a ≤ 255) (b : Int) (c0 : 0 ≤ b) (c1 : b ≤ 255) (v : Int) (d0 : 0 ≤ v) (d1 : v ≤ 255) : Calls Tryz.prog 7 #[.int .u32 at_, .int .u8 a, .int .u8 b, .int .u8 v] W fun e w' => e = .returned (.bool true) ∧ Below W.heap.size W w' := by
  have HA : Hid (∀ w, _) := awake_ok
  have HB : Hid (∀ W, _) := fun W => both_ok W 256 (by decide) (by decide) none 0 0 (fun _ => 0) (fun j hj => absurd hj (by omega)) (fun j hj => absurd hj (by omega)) (by decide) (by decide)
  have okd : (Dk.id0 (0 / 512) (Dk.dB 0 (fun _ => 0))).Ok := Dk.idN_ok (by decide) (fun j hj => absurd hj (by omega))
  unfold BothP at HB
  generalize (0 / 512 : Nat) = n at *
  generalize Dk.dB 0 (fun _ => 0) = D at *
  obtain ⟨x0, hx0⟩ : ∃ x0, x0 = (bm0 n D (Rm.mem0 256)).tell := ⟨_, rfl⟩
  have k0 : x0.Ok := by rw [hx0]; exact (bm0_ok okd).tell
  have m0 : x0.m = Rm.mem0 256 := by rw [hx0]; rfl
  have w0 : x0.wk = 0 := by rw [hx0]; rfl
  rw [← hx0] at HB
  have ha : Byt a := ⟨b0, by omega⟩
  have hb : Byt b := ⟨c0, by omega⟩
  have hv : Byt v := ⟨d0, by omega⟩
  obtain ⟨p, hp⟩ : ∃ p, p = at_ % 1048576 := ⟨_, rfl⟩
  have f1 : at_ % 1048576 = p := hp.symm
  have p0 : 0 ≤ p := by omega
  have p1 : p < 1048576 := by omega
  obtain ⟨q, hq⟩ : ∃ q, q = p + 1048576 := ⟨_, rfl⟩
  have f2 : IntKind.u32.wrap (p + 1048576) = q := by rw [IntKind.wrap_u32]; omega
  have f3 : (p + 1048576) % 4294967296 = q := by omega
  have f4 : p + 1048576 = q := hq.symm
  obtain ⟨x1, hx1⟩ : ∃ x1 : Bm, x1 = { x0 with m := x0.m.put false p a } := ⟨_, rfl⟩
  obtain ⟨x2, hx2⟩ : ∃ x2 : Bm, x2 = { x1 with m := x1.m.put false q b } := ⟨_, rfl⟩
  obtain ⟨x3, hx3⟩ : ∃ x3 : Bm, x3 = x2.out 146 1 v := ⟨_, rfl⟩
  obtain ⟨x4, hx4⟩ : ∃ x4 : Bm, x4 = x3.inn 146 1 := ⟨_, rfl⟩
  have k2 : x2.Ok := by rw [hx2, hx1]; exact { k0 with }
  have w2 : x2.wk = 0 := by rw [hx2, hx1]; exact w0
  have k3 : x3.Ok := by rw [hx3]; exact k2.out _ _ _
  have m3 : x3.m = setC (((Rm.mem0 256).put false p a).put false q b) (shutV v) := by rw [hx3, out_gate _ _ hv, hx2, hx1, ← m0]; rfl
  have l3 : x3.cl = shutV v := by rw [hx3, out_gate _ _ hv]; rfl
  have m4 : x4.m = x3.m := by rw [hx4]; exact in_gate_m x3
  have e1 : erS 1 = 0 := rfl
  have H1 : Hid (∀ w1 W L Rs, Hs w1 W (updR Rs 0 (busR L x0)) → Calls Tryz.prog 18 #[.pointer (some ⟨L.M + 3, 0, none⟩), .int .u32 p, .int .i64 1, .int .u32 a] W fun e w' => e = .returned (.int .i64 0) ∧ Hs w1 w' (updR Rs 0 (busR L x1))) := fun w1 W L Rs h => by rw [hx1]; exact rWrite h p a p0 (by omega) ha
  have H2 : Hid (∀ w1 W L Rs, Hs w1 W (updR Rs 0 (busR L x1)) → Calls Tryz.prog 18 #[.pointer (some ⟨L.M + 3, 0, none⟩), .int .u32 q, .int .i64 1, .int .u32 b] W fun e w' => e = .returned (.int .i64 0) ∧ Hs w1 w' (updR Rs 0 (busR L x2))) := fun w1 W L Rs h => by rw [hx2]; exact rWrite h q b (by omega) (by omega) hb
  have H3 : Hid (∀ w1 W L Rs, Hs w1 W (updR Rs 0 (busR L x2)) → Calls Tryz.prog 22 #[.pointer (some ⟨L.B, 0, none⟩), .int .u16 146, .int .i64 1, .int .u32 v] W fun e w' => e = .returned (.int .i64 0) ∧ Hs w1 w' (updR Rs 0 (busR L x3))) := fun w1 W L Rs h => by rw [hx3]; exact rOut h k2 146 1 v (by decide) (by decide) d0 (by omega) (by rw [w2]; decide)
  have H4 : Hid (∀ w1 W L Rs, Hs w1 W (updR Rs 0 (busR L x3)) → Calls Tryz.prog 24 #[.pointer (some ⟨L.B, 0, none⟩), .int .u16 146, .int .i64 1] W fun e w' => e = .returned (.tuple #[.int .u32 (gateV (shutV v)), .int .i64 0]) ∧ Hs w1 w' (updR Rs 0 (busR L x4))) := fun w1 W L Rs h => by
    have := rIn h k3 146 1 (by decide) (by decide)
    rw [in_gate, l3, ← hx4] at this
    exact this
  have H5 : Hid (∀ w1 W L Rs, Hs w1 W (updR Rs 0 (busR L x4)) → Calls Tryz.prog 19 #[.pointer (some ⟨L.M + 3, 0, none⟩), .int .u32 q, .int .i64 1] W fun e w' => e = .returned (.tuple #[.int .u32 (x4.m.read q 1), .int .i64 0]) ∧ Hs w1 w' (updR Rs 0 (busR L x4))) := fun w1 W L Rs h => rRead h q (by omega) (by omega)
  have HE : Hid (∀ w0 w' : World, Kp noB W w0 → Kp noB w0 w' → Below W.heap.size W w') := fun w0 w' h k => kpE (h.trans k)
  by_cases hop : v / 2 % 2 = 1
  · have sv : shutV v = false := by unfold shutV; rw [beq_eq_false_iff_ne]; omega
    have g1 : (v / 2 % 2 == 1) = true := by rw [beq_iff_eq]; exact hop
    have r5 : x4.m.read q 1 = 255 := by rw [m4, m3, sv, hq]; exact gate_open p0 p1
    rw [r5] at H5
    rw [sv] at H4
    have gv : gateV false = 2 := rfl
    rw [gv] at H4
    clear hx0 hx1 hx2 hx3 hx4 k0 k2 k3 m0 m3 m4 w0 w2 l3 e1 okd hp hq ha hb hv sv hop r5
    go_enter Tryz.func7, Tryz.ntmps7
    go_wp2_with fail
    refine Calls.mono (HA.out _) ?_; rintro e w1 ⟨rfl, q1⟩
    have Q1 : Hid (Kp noB W w1) := q1
    have HB1 : Hid _ := HB.out w1
    clear q1 HB HA
    go_wp2_with fail
    refine Calls.mono HB1.out ?_; rintro e w2 ⟨L, L', rfl, p2⟩
    have P2 : Hid (Hs w1 w2 (updR (two .none (docR L' x0)) 0 (busR L x0))) := by rw [two_0]; exact p2
    clear p2 HB1
    generalize two .none (docR L' x0) = Rs at *
    go_wp2_with fail
    refine Calls.mono (H1.out _ _ _ _ P2.out) ?_; rintro e w3 ⟨rfl, p3⟩
    have P3 : Hid _ := p3
    clear p3 P2 H1
    go_wp2_with fail
    refine Calls.mono (H2.out _ _ _ _ P3.out) ?_; rintro e w4 ⟨rfl, p4⟩
    have P4 : Hid _ := p4
    clear p4 P3 H2
    go_wp2_with fail
    refine Calls.mono (H3.out _ _ _ _ P4.out) ?_; rintro e w5 ⟨rfl, p5⟩
    have P5 : Hid _ := p5
    clear p5 P4 H3
    go_wp2_with fail
    refine Calls.mono (H4.out _ _ _ _ P5.out) ?_; rintro e w6 ⟨rfl, p6⟩
    have P6 : Hid _ := p6
    clear p6 P5 H4
    go_wp2_with fail
    refine Calls.mono (H5.out _ _ _ _ P6.out) ?_; rintro e w7 ⟨rfl, p7⟩
    have P7 : Hid _ := p7
    clear p7 P6 H5
    have KZ : Hid _ := HE.out w1 w7 Q1.out P7.out.kp
    clear P7 Q1 HE
    go_wp2
    go_ret
    exact ⟨rfl, KZ.out⟩
  · have sv : shutV v = true := by unfold shutV; rw [beq_iff_eq]; omega
    have g1 : (v / 2 % 2 == 1) = false := by rw [beq_eq_false_iff_ne]; exact hop
    have r5 : x4.m.read q 1 = a := by rw [m4, m3, sv, hq]; exact (gate_shut p0 p1).1
    have r7 : (x4.m.put false q b).read p 1 = b := by rw [m4, m3, sv, hq]; exact (gate_shut p0 p1).2
    rw [r5] at H5
    rw [sv] at H4
    have gv : gateV true = 0 := rfl
    rw [gv] at H4
    have H6 : Hid (∀ w1 W L Rs, Hs w1 W (updR Rs 0 (busR L x4)) → Calls Tryz.prog 18 #[.pointer (some ⟨L.M + 3, 0, none⟩), .int .u32 q, .int .i64 1, .int .u32 b] W fun e w' => e = .returned (.int .i64 0) ∧ Hs w1 w' (updR Rs 0 (busR L { x4 with m := x4.m.put false q b }))) := fun w1 W L Rs h => rWrite h q b (by omega) (by omega) hb
    have H7 : Hid (∀ w1 W L Rs, Hs w1 W (updR Rs 0 (busR L { x4 with m := x4.m.put false q b })) → Calls Tryz.prog 19 #[.pointer (some ⟨L.M + 3, 0, none⟩), .int .u32 p, .int .i64 1] W fun e w' => e = .returned (.tuple #[.int .u32 b, .int .i64 0]) ∧ Hs w1 w' (updR Rs 0 (busR L { x4 with m := x4.m.put false q b }))) := fun w1 W L Rs h => by
      have := rRead h p p0 (by omega)
      rw [show ({ x4 with m := x4.m.put false q b } : Bm).m.read p 1 = b from r7] at this
      exact this
    generalize ({ x4 with m := x4.m.put false q b } : Bm) = x6 at *
    clear hx0 hx1 hx2 hx3 hx4 k0 k2 k3 m0 m3 m4 w0 w2 l3 e1 okd hp hq ha hb hv sv hop r5 r7
    go_enter Tryz.func7, Tryz.ntmps7
    go_wp2_with fail
    refine Calls.mono (HA.out _) ?_; rintro e w1 ⟨rfl, q1⟩
    have Q1 : Hid (Kp noB W w1) := q1
    have HB1 : Hid _ := HB.out w1
    clear q1 HB HA
    go_wp2_with fail
    refine Calls.mono HB1.out ?_; rintro e w2 ⟨L, L', rfl, p2⟩
    have P2 : Hid (Hs w1 w2 (updR (two .none (docR L' x0)) 0 (busR L x0))) := by rw [two_0]; exact p2
    clear p2 HB1
    generalize two .none (docR L' x0) = Rs at *
    go_wp2_with fail
    refine Calls.mono (H1.out _ _ _ _ P2.out) ?_; rintro e w3 ⟨rfl, p3⟩
    have P3 : Hid _ := p3
    clear p3 P2 H1
    go_wp2_with fail
    refine Calls.mono (H2.out _ _ _ _ P3.out) ?_; rintro e w4 ⟨rfl, p4⟩
    have P4 : Hid _ := p4
    clear p4 P3 H2
    go_wp2_with fail
    refine Calls.mono (H3.out _ _ _ _ P4.out) ?_; rintro e w5 ⟨rfl, p5⟩
    have P5 : Hid _ := p5
    clear p5 P4 H3
    go_wp2_with fail
    refine Calls.mono (H4.out _ _ _ _ P5.out) ?_; rintro e w6 ⟨rfl, p6⟩
    have P6 : Hid _ := p6
    clear p6 P5 H4
    go_wp2_with fail
    refine Calls.mono (H5.out _ _ _ _ P6.out) ?_; rintro e w7 ⟨rfl, p7⟩
    have P7 : Hid _ := p7
    clear p7 P6 H5
    go_wp2_with fail
    refine Calls.mono (H6.out _ _ _ _ P7.out) ?_; rintro e w8 ⟨rfl, p8⟩
    have P8 : Hid _ := p8
    clear p8 P7 H6
    go_wp2_with fail
    refine Calls.mono (H7.out _ _ _ _ P8.out) ?_; rintro e w9 ⟨rfl, p9⟩
    have P9 : Hid _ := p9
    clear p9 P8 H7
    have KZ : Hid _ := HE.out w1 w9 Q1.out P9.out.kp
    clear P9 Q1 HE
    go_wp2
    go_ret
    exact ⟨rfl, KZ.out⟩
end Go.Proofs.YtclejmdmbanedaaGreat.Bs
