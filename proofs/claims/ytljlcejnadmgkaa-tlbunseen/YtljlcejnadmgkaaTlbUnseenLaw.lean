/- The walk of the statement TlbUnseen: what is kept is not seen. -/
import Derived.Test.YtljlcejnadmgkaaTlAwake
import Derived.Test.YtljlcejnadmgkaaTlOpen
import Derived.Test.YtljlcejnadmgkaaTlRange
namespace Go.Proofs.Ytljlcejnadmgkaa
open Go.ChangeShapes Go.WideShapes Go.ChangeAt Go.RowKit Go.Maps
set_option linter.unusedVariables false

/-- The blocks of a memory, and of a keeper over it. -/
def zo (B K j : Nat) : Prop := inRam B 16 j ∨ inTlb K j
def zall (B C E K H j : Nat) : Prop := zo B K j ∨ zo C H j ∨ inRam E 16 j
structure Apart (B C E K H : Nat) : Prop where
  bc : ∀ j, zo B K j → ¬ zo C H j
  be : ∀ j, zo B K j → ¬ inRam E 16 j
  ce : ∀ j, zo C H j → ¬ inRam E 16 j
  bk : ∀ j, inTlb K j → ¬ inRam B 16 j
  ck : ∀ j, inTlb H j → ¬ inRam C 16 j

/-- Three memories, and two keepers. -/
structure Tri (w : World) (B C E K H tn un : Nat) (D F : DataW Unit) (M N O : Mem) : Prop where
  rb : RamAt w B M
  rc : RamAt w C N
  re : RamAt w E O
  tb : TlbD w K B 64 tn D
  tc : TlbD w H C 0 un F
  nb : M.n = 16
  nc : N.n = 16
  ne : O.n = 16

theorem Tri.kp {S : Nat → Prop} {w w' : World} {B C E K H tn un : Nat} {D F : DataW Unit} {M N O : Mem} (h : Tri w B C E K H tn un D F M N O) (k : Kp S w w') (hS : ∀ j, zall B C E K H j → ¬ S j) : Tri w' B C E K H tn un D F M N O :=
  ⟨h.rb.kp k (fun j hj => hS j (.inl (.inl (by rw [h.nb] at hj; exact hj)))), h.rc.kp k (fun j hj => hS j (.inr (.inl (.inl (by rw [h.nc] at hj; exact hj))))), h.re.kp k (fun j hj => hS j (.inr (.inr (by rw [h.ne] at hj; exact hj)))), h.tb.kp k (fun j hj => hS j (.inl (.inr hj))), h.tc.kp k (fun j hj => hS j (.inr (.inl (.inr hj)))), h.nb, h.nc, h.ne⟩

theorem Tri.lt {w : World} {B C E K H tn un : Nat} {D F : DataW Unit} {M N O : Mem} (h : Tri w B C E K H tn un D F M N O) {j : Nat} (hj : zall B C E K H j) : j < w.heap.size := by
  have l1 := h.rb.lt
  have l2 := h.rc.lt
  have l3 := h.re.lt
  have l4 := h.tb.lt
  have l5 := h.tc.lt
  rw [h.nb] at l1
  rw [h.nc] at l2
  rw [h.ne] at l3
  rcases hj with (f | f) | (f | f) | f
  · have := f.2; omega
  · rcases f with e | e <;> omega
  · have := f.2; omega
  · rcases f with e | e <;> omega
  · have := f.2; omega

theorem Tri.onB {w w' : World} {B C E K H tn un : Nat} {D F : DataW Unit} {M N O : Mem} (h : Tri w B C E K H tn un D F M N O) (a : Apart B C E K H) {tn' : Nat} {D' : DataW Unit} {M' : Mem} (hr : RamAt w' B M') (hn : M'.n = 16) (ht : TlbD w' K B 64 tn' D') (k : Kp (zo B K) w w') : Tri w' B C E K H tn' un D' F M' N O :=
  ⟨hr, h.rc.kp k (fun j hj f => a.bc j f (.inl (by rw [h.nc] at hj; exact hj))), h.re.kp k (fun j hj f => a.be j f (by rw [h.ne] at hj; exact hj)), ht, h.tc.kp k (fun j hj f => a.bc j f (.inr hj)), hn, h.nc, h.ne⟩
theorem Tri.onC {w w' : World} {B C E K H tn un : Nat} {D F : DataW Unit} {M N O : Mem} (h : Tri w B C E K H tn un D F M N O) (a : Apart B C E K H) {un' : Nat} {F' : DataW Unit} {N' : Mem} (hr : RamAt w' C N') (hn : N'.n = 16) (ht : TlbD w' H C 0 un' F') (k : Kp (zo C H) w w') : Tri w' B C E K H tn un' D F' M N' O :=
  ⟨h.rb.kp k (fun j hj f => a.bc j (.inl (by rw [h.nb] at hj; exact hj)) f), hr, h.re.kp k (fun j hj f => a.ce j f (by rw [h.ne] at hj; exact hj)), h.tb.kp k (fun j hj f => a.bc j (.inr hj) f), ht, h.nb, hn, h.ne⟩
theorem Tri.onE {w w' : World} {B C E K H tn un : Nat} {D F : DataW Unit} {M N O : Mem} (h : Tri w B C E K H tn un D F M N O) (a : Apart B C E K H) {O' : Mem} (hr : RamAt w' E O') (hn : O'.n = 16) (k : Kp (inRam E 16) w w') : Tri w' B C E K H tn un D F M N O' :=
  ⟨h.rb.kp k (fun j hj f => a.be j (.inl (by rw [h.nb] at hj; exact hj)) f), h.rc.kp k (fun j hj f => a.ce j (.inl (by rw [h.nc] at hj; exact hj)) f), hr, h.tb.kp k (fun j hj f => a.be j (.inr hj) f), h.tc.kp k (fun j hj f => a.ce j (.inr hj) f), h.nb, h.nc, hn⟩

theorem Tri.memB {w w' : World} {B C E K H tn un : Nat} {D F : DataW Unit} {M N O : Mem} (h : Tri w B C E K H tn un D F M N O) (a : Apart B C E K H) {M' : Mem} (hr : RamAt w' B M') (hn : M'.n = 16) (k : Kp (inRam B 16) w w') : Tri w' B C E K H tn un D F M' N O :=
  h.onB a hr hn (h.tb.kp k (fun j hj => a.bk j hj)) (k.mono (fun _ _ f => .inl f))
theorem Tri.memC {w w' : World} {B C E K H tn un : Nat} {D F : DataW Unit} {M N O : Mem} (h : Tri w B C E K H tn un D F M N O) (a : Apart B C E K H) {N' : Mem} (hr : RamAt w' C N') (hn : N'.n = 16) (k : Kp (inRam C 16) w w') : Tri w' B C E K H tn un D F M N' O :=
  h.onC a hr hn (h.tc.kp k (fun j hj => a.ck j hj)) (k.mono (fun _ _ f => .inl f))

/-- A word in a block of its own. -/
def RowD (W : World) (X : Nat) (a v : Int) : Prop := W.heap[X]? = some (.cells #[.int .u32 a, .int .u32 v] 41 (0, 0))
theorem RowD.c0 {W : World} {X : Nat} {a v : Int} (h : RowD W X a v) : W.cell? ⟨X, 0, none⟩ = some (.int .u32 a) := by rw [cell_at h]; rfl
theorem RowD.c1 {W : World} {X : Nat} {a v : Int} (h : RowD W X a v) : W.cell? ⟨X, 1, none⟩ = some (.int .u32 v) := by rw [cell_at h]; rfl
theorem RowD.lt {W : World} {X : Nat} {a v : Int} (h : RowD W X a v) : X < W.heap.size := (Array.getElem?_eq_some_iff.1 h).1
theorem RowD.kp {S : Nat → Prop} {W W' : World} {X : Nat} {a v : Int} (h : RowD W X a v) (k : Kp S W W') (hS : ¬ S X) : RowD W' X a v := (k.block X h.lt hS).trans h

def UnL (w : World) (B C E K H L k : Nat) (s : Value) (wr : World) : Prop :=
  ∃ (i : Nat) (M : Mem) (D F : DataW Unit) (tn un : Nat), s = .int .i64 i ∧ i ≤ L ∧ L - i ≤ k ∧ M.closed = false ∧ Tri wr B C E K H tn un D F M M M ∧ (tn ≤ i ∧ un ≤ i) ∧ Kp noB w wr

set_option maxRecDepth 100000 in
set_option maxHeartbeats 20000000 in
theorem TlbUnseen_walk (w : World) (a0 : Option Addr) (len0 cap0 : Nat) (wf wg : Nat → Int) (q0 : len0 ≤ 9223372036854775807) (ws0 : ∀ i, i < len0 → WordIn w a0 wf wg i)
    (a1 : Option Addr) (L cap1 : Nat) (q1 : L ≤ 9223372036854775807) (ws1 : ∀ i, i < L → OpIn w a1 i) :
    Calls Try.prog 5 #[.slice a0 len0 cap0, .slice a1 L cap1] w fun e w' => e = .returned (.bool true) ∧ Below w.heap.size w w' := by
  have HB : Hid (∀ W, Kp noB w W → Calls Try.prog 9 #[.int .i64 16, .slice a0 len0 cap0, .slice none 0 0] W (BothPost W (memOf wf wg (fun _ => 0) len0 0))) := fun W kW => both_any W a0 none len0 cap0 0 0 wf wg (fun _ => 0) q0 (by omega) (fun i hi => (ws0 i hi).kp kW) (fun i hi => absurd hi (by omega))
  have HS : Hid (∀ i, i < L → OpIn w a1 i) := ws1
  have hms := memOf_same wf wg (fun _ => 0) len0 0
  obtain ⟨M0, hM0⟩ : ∃ M0, M0 = memOf wf wg (fun _ => 0) len0 0 := ⟨_, rfl⟩
  rw [← hM0] at HB hms
  clear ws0 ws1 hM0
  go_enter Try.func5, Try.ntmps5
  go_wp2_with fail
  refine (tlAwake_any _).mono ?_; rintro e w1 ⟨rfl, k1⟩
  go_wp2_with fail
  refine (HB.out _ k1).mono ?_; rintro e w2 ⟨B, R, rfl, hB2, hout, k2⟩
  have s1 := k1.size
  have HO1 : Hid (∀ j, inRam B 16 j → w.heap.size ≤ j) := fun j hj => by have := hout j (.inl hj); omega
  replace k2 := k1.trans k2
  have hra := hB2.ram
  have l1 := hra.lt
  rw [hms.1] at l1
  clear k1 hout s1 hB2
  go_wp2_with fail
  refine (HB.out _ k2).mono ?_; rintro e w3 ⟨C, R2, rfl, hC3, hout, k3⟩
  have s2 := k2.size
  have HO2 : Hid (∀ j, inRam C 16 j → w2.heap.size ≤ j) := fun j hj => hout j (.inl hj)
  have HW2 : Hid (w.heap.size ≤ w2.heap.size ∧ B + 4 + 16 ≤ w2.heap.size) := ⟨s2, l1⟩
  replace hra := hra.kp k3 (fun _ _ f => f)
  have s3 := k3.size
  replace k3 := k2.trans k3
  have hrc := hC3.ram
  have l2 := hrc.lt
  rw [hms.1] at l2
  clear k2 hout hC3
  go_wp2_with fail
  refine (HB.out _ k3).mono ?_; rintro e w4 ⟨E, R3, rfl, hE4, hout, k4⟩
  have HO3 : Hid (∀ j, inRam E 16 j → w3.heap.size ≤ j) := fun j hj => hout j (.inl hj)
  have HW3 : Hid (w2.heap.size ≤ w3.heap.size ∧ C + 4 + 16 ≤ w3.heap.size) := ⟨s3, l2⟩
  replace hra := hra.kp k4 (fun _ _ f => f)
  replace hrc := hrc.kp k4 (fun _ _ f => f)
  have s4 := k4.size
  replace k4 := k3.trans k4
  have hre := hE4.ram
  have l3 := hre.lt
  rw [hms.1] at l3
  have HW4 : Hid (w3.heap.size ≤ w4.heap.size ∧ E + 4 + 16 ≤ w4.heap.size) := ⟨s4, l3⟩
  clear k3 hout hE4 HB s2 s3 s4 l1 l2 l3
  have cN := tlNew_ok w4 B 64 (by omega)
  go_wp2_with fail
  refine cN.mono ?_; rintro e w5 ⟨rfl, t5, k5⟩
  have s5 := k5.size
  have HW5 : Hid (w4.heap.size + 1 < w5.heap.size) := t5.lt
  replace hra := hra.kp k5 (fun _ _ f => f)
  replace hrc := hrc.kp k5 (fun _ _ f => f)
  replace hre := hre.kp k5 (fun _ _ f => f)
  replace k5 := k4.trans k5
  clear cN k4
  have cN := tlNew_ok w5 C 0 (by omega)
  go_wp2_with fail
  refine cN.mono ?_; rintro e w6 ⟨rfl, u6, k6⟩
  have hT : Tri w6 B C E w4.heap.size w5.heap.size 0 0 (.map []) (.map []) M0 M0 M0 := ⟨hra.kp k6 (fun _ _ f => f), hrc.kp k6 (fun _ _ f => f), hre.kp k6 (fun _ _ f => f), t5.kp k6 (fun _ _ f => f), u6, hms.1, hms.1, hms.1⟩
  have hA : Apart B C E w4.heap.size w5.heap.size := by
    obtain ⟨y1, y2⟩ := HW2.out
    obtain ⟨y3, y4⟩ := HW3.out
    obtain ⟨y5, y6⟩ := HW4.out
    have y7 := HW5.out
    refine ⟨fun j hj f => ?_, fun j hj f => ?_, fun j hj f => ?_, fun j hj f => ?_, fun j hj f => ?_⟩
    · rcases hj with g | g <;> rcases f with f | f
      · have := HO2.out j f; have := g.2; omega
      · have := g.2; rcases f with e | e <;> omega
      · have := f.2; rcases g with e | e <;> omega
      · rcases f with e | e <;> rcases g with e' | e' <;> omega
    · have := HO3.out j f
      have := f.2
      rcases hj with g | g
      · have := g.2; omega
      · rcases g with e | e <;> omega
    · have := HO3.out j f
      have := f.2
      rcases hj with g | g
      · have := g.2; omega
      · rcases g with e | e <;> omega
    · have := f.2; rcases hj with e | e <;> omega
    · have := f.2; rcases hj with e | e <;> omega
  have HOut : Hid (∀ j, zall B C E w4.heap.size w5.heap.size j → w.heap.size ≤ j) := fun j hj => by
    obtain ⟨y1, y2⟩ := HW2.out
    obtain ⟨y3, y4⟩ := HW3.out
    obtain ⟨y5, y6⟩ := HW4.out
    have y7 := HW5.out
    rcases hj with (f | f) | (f | f) | f
    · exact HO1.out j f
    · rcases f with e | e <;> omega
    · have := HO2.out j f; omega
    · rcases f with e | e <;> omega
    · have := HO3.out j f; omega
  replace k6 := k5.trans k6
  have HAp : Hid (Apart B C E w4.heap.size w5.heap.size) := hA
  obtain ⟨K, hKe⟩ : ∃ K, K = w4.heap.size := ⟨_, rfl⟩
  obtain ⟨H, hHe⟩ : ∃ H, H = w5.heap.size := ⟨_, rfl⟩
  rw [← hKe, ← hHe] at hT HAp HOut
  rw [← hKe, ← hHe]
  clear hKe hHe hA cN k5 u6 t5 hra hrc hre HW2 HW3 HW4 HW5 HO1 HO2 HO3 s5
  go_wp2_with fail
  go_loopg [16] L (UnL w B C E K H L)
  case atStart => exact ⟨0, M0, _, _, 0, 0, rfl, Nat.zero_le _, Nat.le_refl _, hms.2, hT, ⟨Nat.zero_le _, Nat.zero_le _⟩, k6⟩
  case round =>
    clear hT k6 hms
    obtain ⟨i, M, D, F, tn, un, rfl, hi1, hik, hMc, hT, ⟨htn, hun⟩, kk⟩ := hrel
    by_cases hlt : (i : Int) < (L : Int)
    · have hi' : i < L := by omega
      obtain ⟨blk, off, kd, c, l, xw, us, wp, a, v, rfl, hblk, ⟨c0, c1, c2, c3, c4, c5, c6, c7⟩, ⟨kd0, kd1⟩, ⟨b0, b1, b2, b3⟩, ⟨b4, b5, b6, b7⟩⟩ := (HS.out i hi').kp kk
      obtain ⟨j, hj⟩ : ∃ j, j = i + 1 := ⟨_, rfl⟩
      have HJ : Hid (j = i + 1) := hj
      have HKm : Hid (L - i ≤ gk) := hik
      have HTn : Hid (tn ≤ i ∧ un ≤ i) := ⟨htn, hun⟩
      have htn2 : tn < 18446744073709551614 := by omega
      have hun2 : un < 18446744073709551614 := by omega
      clear hj hik htn hun
      obtain ⟨Z, hZ⟩ : ∃ Z, Z = wr.heap.size := ⟨_, rfl⟩
      have kA := Kp.alloc noB wr (.cells #[.int .u32 c, .int .u32 l, .bool xw, .bool us, .bool wp] 39)
      have e0 := cell_kp c0 kA (fun f => f)
      have e6 := cell_kp c6 kA (fun f => f)
      have e7 := cell_kp c7 kA (fun f => f)
      have kB := kA.trans (Kp.alloc noB _ (.cells #[.int .u32 a, .int .u32 v] 41))
      have g0 := cell_kp c0 kB (fun f => f)
      go_upto_region 14 with fail
      obtain ⟨V, hV⟩ : ∃ V, V = (wr.alloc (.cells #[.int .u32 c, .int .u32 l, .bool xw, .bool us, .bool wp] 39)).alloc (.cells #[.int .u32 a, .int .u32 v] 41) := ⟨_, rfl⟩
      have rA : RowA V Z c l xw us wp := by
        rw [hV, hZ]
        exact (Below.heap_alloc _ _ _ (by simp)).trans (MapKept.heap_alloc wr _).1
      have rD : RowD V (Z + 1) a v := by
        rw [hV, hZ]
        have e0 := (MapKept.heap_alloc (wr.alloc (.cells #[.int .u32 c, .int .u32 l, .bool xw, .bool us, .bool wp] 39)) (.cells #[.int .u32 a, .int .u32 v] 41)).1
        have e1 : (wr.alloc (.cells #[.int .u32 c, .int .u32 l, .bool xw, .bool us, .bool wp] 39)).heap.size = wr.heap.size + 1 := by simp
        rw [e1] at e0
        exact e0
      have nZ : ∀ j, zall B C E K H j → j < Z := fun j hj => by rw [hZ]; exact hT.lt hj
      rw [← hV] at kB g0 ⊢
      rw [← hZ]
      replace hT := hT.kp kB (fun _ _ f => f)
      replace kk := kk.trans kB
      clear kA kB hV hZ c0 c1 c2 c3 c4 c5 c6 c7 e0 e6 e7 hblk
      by_cases hk2 : kd = 2
      · -- Write
        have hkb : (kd == 2) = true := by rw [hk2]; rfl
        have HWr : Hid (∀ (B : Nat) (W : World), RamAt W B M → Calls Try.prog 14 #[.pointer (some ⟨B + 3, 0, none⟩), .int .u32 a, .int .i64 4, .int .u32 v] W fun e w' => e = .returned (.int .i64 0) ∧ RamAt w' B (M.lay false a (bytesV v)) ∧ Kp (inRam B M.n) W w') := fun B W hW => write_ok W B M hW a 4 v b4 b5 b6 b7 rfl
        rw [hT.nb] at HWr
        have hM1 : (M.lay false a (bytesV v)).n = 16 := (lay_same _ _ _ _).1.trans hT.nb
        have hM2 : (M.lay false a (bytesV v)).closed = false := (lay_same _ _ _ _).2.2.trans hMc
        generalize M.lay false a (bytesV v) = M' at *
        clear hk2 rA
        have d0 := rD.c0; have d1 := rD.c1
        go_wp2_with fail
        refine (HWr.out B _ hT.rb).mono ?_; rintro e w4 ⟨rfl, hr4, k4⟩
        replace rD := rD.kp k4 (fun f => by have := nZ _ ((fun g => .inl (.inl g)) f); omega)
        replace hT := hT.memB HAp.out hr4 hM1 k4
        replace kk := kk.over k4 (fun t ht f => by have := HOut.out t ((fun g => .inl (.inl g)) f); omega)
        clear d0 d1 k4 hr4
        have d0 := rD.c0; have d1 := rD.c1
        go_wp2_with fail
        refine (HWr.out C _ hT.rc).mono ?_; rintro e w5 ⟨rfl, hr4, k4⟩
        replace rD := rD.kp k4 (fun f => by have := nZ _ ((fun g => .inr (.inl (.inl g))) f); omega)
        replace hT := hT.memC HAp.out hr4 hM1 k4
        replace kk := kk.over k4 (fun t ht f => by have := HOut.out t ((fun g => .inr (.inl (.inl g))) f); omega)
        clear d0 d1 k4 hr4
        have d0 := rD.c0; have d1 := rD.c1
        go_wp2_with fail
        refine (HWr.out E _ hT.re).mono ?_; rintro e w6 ⟨rfl, hr4, k4⟩
        replace rD := rD.kp k4 (fun f => by have := nZ _ ((fun g => .inr (.inr g)) f); omega)
        replace hT := hT.onE HAp.out hr4 hM1 k4
        replace kk := kk.over k4 (fun t ht f => by have := HOut.out t ((fun g => .inr (.inr g)) f); omega)
        clear d0 d1 k4 hr4
        go_wp2_with fail
        go_roundg (L - j)
        case measure => have := HJ.out; have := HKm.out; omega
        case rel => exact ⟨j, M', D, F, tn, un, by rw [HJ.out]; rfl, by have := HJ.out; omega, Nat.le_refl _, hM2, hT, by have := HJ.out; have := HTn.out; omega, kk⟩
      · -- Find
        have hkb : (kd == 2) = false := by simpa using hk2
        obtain ⟨f, p, q, x, y, hwk⟩ := fWalk_is M c l xw us wp
        have cb := fCode_bd M c l xw us wp
        have hsm := fMem_same M c l xw us wp
        have HF1 : Hid (∀ W, RamAt W B M → TlbD W K B 64 tn D → Calls Try.prog 12 #[.pointer (some ⟨K + 1, 0, none⟩), .int .u32 c, .int .u32 l, .agg #[.bool xw, .bool us, .bool wp]] W (fun e w' => e = .returned (.tuple #[.agg #[.int .u32 f, .int .u32 p, .int .u32 q, .bool x, .bool y], .int .i64 (fCode M c l xw us wp), .int .i64 0]) ∧ RamAt w' B (fMem M c l xw us wp) ∧ (∃ D' tn', TlbD w' K B 64 tn' D' ∧ tn' ≤ tn + 1) ∧ Kp (zo B K) W w')) := fun W hW hW' => by
          have := tlFind_ok W K B 64 tn D M hW' hW hMc c l xw us wp b0 b1 b2 b3 htn2 (by rw [hT.nb]; exact HAp.out.bk)
          unfold TfPost at this
          rw [hwk, hT.nb] at this
          exact this
        have HF2 : Hid (∀ W, RamAt W C M → TlbD W H C 0 un F → Calls Try.prog 12 #[.pointer (some ⟨H + 1, 0, none⟩), .int .u32 c, .int .u32 l, .agg #[.bool xw, .bool us, .bool wp]] W (fun e w' => e = .returned (.tuple #[.agg #[.int .u32 f, .int .u32 p, .int .u32 q, .bool x, .bool y], .int .i64 (fCode M c l xw us wp), .int .i64 0]) ∧ RamAt w' C (fMem M c l xw us wp) ∧ (∃ D' tn', TlbD w' H C 0 tn' D' ∧ tn' ≤ un + 1) ∧ Kp (zo C H) W w')) := fun W hW hW' => by
          have := tlFind_ok W H C 0 un F M hW' hW hMc c l xw us wp b0 b1 b2 b3 hun2 (by rw [hT.nb]; exact HAp.out.ck)
          unfold TfPost at this
          rw [hwk, hT.nb] at this
          exact this
        have HF3 : Hid (∀ W, RamAt W E M → Calls Try.prog 19 #[.pointer (some ⟨E + 3, 0, none⟩), .int .u32 c, .int .u32 l, .agg #[.bool xw, .bool us, .bool wp]] W (fun e w' => e = .returned (.tuple #[.agg #[.int .u32 f, .int .u32 p, .int .u32 q, .bool x, .bool y], .int .i64 (fCode M c l xw us wp), .int .i64 0]) ∧ RamAt w' E (fMem M c l xw us wp) ∧ Kp (inRam E 16) W w')) := fun W hW => by
          have := find_ok W E M hW c l xw us wp b0 b1 b2 b3
          unfold FdPost at this
          rw [hwk, hT.nb] at this
          exact this
        rw [hT.nb] at hsm
        obtain ⟨M', hM'⟩ : ∃ M', M' = fMem M c l xw us wp := ⟨_, rfl⟩
        obtain ⟨cd, hcd⟩ : ∃ cd, cd = fCode M c l xw us wp := ⟨_, rfl⟩
        rw [← hM'] at HF1 HF2 HF3 hsm
        rw [← hcd] at HF1 HF2 HF3 cb
        have hM1 : M'.n = 16 := hsm.1
        have hM2 : M'.closed = false := hsm.2.2.trans hMc
        obtain ⟨cb0, cb1⟩ := cb
        have hZV : Z + 1 < V.heap.size := rD.lt
        clear hwk hsm hM' hcd hMc rD hk2
        have d0 := rA.c0; have d1 := rA.c1; have d2 := rA.c2; have d3 := rA.c3; have d4 := rA.c4
        go_wp2_with fail
        refine (HF1.out _ hT.rb hT.tb).mono ?_; rintro e w4 ⟨rfl, hr4, ⟨D4, tn4, t4, ht4⟩, k4⟩
        replace rA := rA.kp k4 (fun f => by have := nZ _ ((fun g => .inl g) f); omega)
        replace hT := hT.onB HAp.out hr4 hM1 t4 k4
        have hY1 : Z + 1 < w4.heap.size := Nat.lt_of_lt_of_le hZV k4.size
        replace kk := kk.over k4 (fun t ht f => by have := HOut.out t ((fun g => .inl g) f); omega)
        clear d0 d1 d2 d3 d4 k4 hr4 hZV t4
        have kA := Kp.alloc noB w4 (.cells #[.int .u32 f, .int .u32 p, .int .u32 q, .bool x, .bool y] 45)
        have rW1 : RowK (w4.alloc (.cells #[.int .u32 f, .int .u32 p, .int .u32 q, .bool x, .bool y] 45)) w4.heap.size f p q x y := (MapKept.heap_alloc w4 _).1
        replace rA := rA.kp kA (fun f => f)
        replace hT := hT.kp kA (fun _ _ f => f)
        replace kk := kk.trans kA
        have hZV : Z + 1 < (w4.alloc (.cells #[.int .u32 f, .int .u32 p, .int .u32 q, .bool x, .bool y] 45)).heap.size := Nat.lt_of_lt_of_le hY1 kA.size
        clear kA
        have d0 := rA.c0; have d1 := rA.c1; have d2 := rA.c2; have d3 := rA.c3; have d4 := rA.c4
        go_wp2_with fail
        refine (HF2.out _ hT.rc hT.tc).mono ?_; rintro e w5 ⟨rfl, hr4, ⟨F5, un5, t4, hu5⟩, k4⟩
        replace rA := rA.kp k4 (fun f => by have := nZ _ ((fun g => .inr (.inl g)) f); omega)
        replace rW1 := rW1.kp k4 (fun f => by have := nZ _ (.inr (.inl f)); omega)
        replace hT := hT.onC HAp.out hr4 hM1 t4 k4
        have hY2 : Z + 1 < w5.heap.size := Nat.lt_of_lt_of_le hZV k4.size
        replace kk := kk.over k4 (fun t ht f => by have := HOut.out t ((fun g => .inr (.inl g)) f); omega)
        clear d0 d1 d2 d3 d4 k4 hr4 hZV t4
        have kA := Kp.alloc noB w5 (.cells #[.int .u32 f, .int .u32 p, .int .u32 q, .bool x, .bool y] 45)
        have rW2 : RowK (w5.alloc (.cells #[.int .u32 f, .int .u32 p, .int .u32 q, .bool x, .bool y] 45)) w5.heap.size f p q x y := (MapKept.heap_alloc w5 _).1
        replace rA := rA.kp kA (fun f => f)
        replace rW1 := rW1.kp kA (fun f => f)
        replace hT := hT.kp kA (fun _ _ f => f)
        replace kk := kk.trans kA
        have hZV : Z + 1 < (w5.alloc (.cells #[.int .u32 f, .int .u32 p, .int .u32 q, .bool x, .bool y] 45)).heap.size := Nat.lt_of_lt_of_le hY2 kA.size
        clear kA
        have d0 := rA.c0; have d1 := rA.c1; have d2 := rA.c2; have d3 := rA.c3; have d4 := rA.c4
        go_wp2_with fail
        refine (HF3.out _ hT.re).mono ?_; rintro e w6 ⟨rfl, hr4, k4⟩
        replace rA := rA.kp k4 (fun f => by have := nZ _ ((fun g => .inr (.inr g)) f); omega)
        replace rW1 := rW1.kp k4 (fun f => by have := nZ _ (.inr (.inr f)); omega)
        replace rW2 := rW2.kp k4 (fun f => by have := nZ _ (.inr (.inr f)); omega)
        replace hT := hT.onE HAp.out hr4 hM1 k4
        have hY3 : Z + 1 < w6.heap.size := Nat.lt_of_lt_of_le hZV k4.size
        replace kk := kk.over k4 (fun t ht f => by have := HOut.out t ((fun g => .inr (.inr g)) f); omega)
        clear d0 d1 d2 d3 d4 k4 hr4 hZV
        have kA := Kp.alloc noB w6 (.cells #[.int .u32 f, .int .u32 p, .int .u32 q, .bool x, .bool y] 45)
        have rW3 : RowK (w6.alloc (.cells #[.int .u32 f, .int .u32 p, .int .u32 q, .bool x, .bool y] 45)) w6.heap.size f p q x y := (MapKept.heap_alloc w6 _).1
        replace rA := rA.kp kA (fun f => f)
        replace rW1 := rW1.kp kA (fun f => f)
        replace rW2 := rW2.kp kA (fun f => f)
        replace hT := hT.kp kA (fun _ _ f => f)
        replace kk := kk.trans kA
        have hZV : Z + 1 < (w6.alloc (.cells #[.int .u32 f, .int .u32 p, .int .u32 q, .bool x, .bool y] 45)).heap.size := Nat.lt_of_lt_of_le hY3 kA.size
        clear kA
        go_upto_region 21 with fail
        have d0 := rW1.c0; have d1 := rW1.c1; have d2 := rW1.c2; have d3 := rW1.c3; have d4 := rW1.c4
        have g0 := rW2.c0; have g1 := rW2.c1; have g2 := rW2.c2; have g3 := rW2.c3; have g4 := rW2.c4
        have h0 := rW3.c0; have h1 := rW3.c1; have h2 := rW3.c2; have h3 := rW3.c3; have h4 := rW3.c4
        clear HF1 HF2 HF3 rA
        go_wp2_with fail
        go_roundg (L - j)
        case measure => have := HJ.out; have := HKm.out; omega
        case rel => exact ⟨j, M', D4, F5, tn4, un5, by rw [HJ.out]; rfl, by have := HJ.out; omega, Nat.le_refl _, hM2, hT, by have := HJ.out; have := HTn.out; omega, kk⟩
    · have hMn := hT.nb
      obtain ⟨N, hN⟩ : ∃ N : Nat, N = 4096 * M.n := ⟨_, rfl⟩
      have HLn : Hid (∀ (X : Nat) (W : World), RamAt W X M → Calls Try.prog 21 #[.pointer (some ⟨X + 3, 0, none⟩)] W fun e w' => e = .returned (.int .i64 N) ∧ w' = W) := fun X W hW => by
        have := len_ok W X M hW
        rw [show ((4096 * M.n : Int)) = (N : Int) by omega] at this
        exact this
      have HDm : Hid (∀ (X : Nat) (W : World), RamAt W X M → Calls Try.prog 20 #[.pointer (some ⟨X + 3, 0, none⟩), .int .u32 0, .int .i64 N] W (DumpPost W X M 0 N)) := fun X W hW => dump_ok W X M hW 0 (by omega) (by omega) N (by omega) (by omega)
      obtain ⟨S, hS⟩ : ∃ S, S = strOfNums (allB M N) := ⟨_, rfl⟩
      have HCd : Hid (∀ (W : World) (b : Nat) (cs : Array Value), W.heap[b]? = some (.cells cs 5 (0, 0)) → (∀ j, j < N → cs[j]? = some (.int .u8 (M.rd ((0 + j) % 4294967296)))) → (convert 55 9 (.slice (some ⟨b, 0, none⟩) N N)).run Try.prog W = .ok (.string S) W) := fun W b cs h1 h2 => by rw [hS]; exact conv_dump h1 h2 hN hMn hMc
      clear hS hN hMn hMc hik
      go_wp2_with fail
      refine (HLn.out B _ hT.rb).mono ?_; rintro e wx ⟨rfl, hw⟩; replace hw := hw.symm; subst hw
      go_wp2_with fail
      refine (HDm.out B _ hT.rb).mono ?_; rintro e w5 ⟨cs, rfl, hh, hsz, hcell, k5⟩
      have hcv := HCd.out _ _ _ hh hcell
      replace hT := hT.kp k5 (fun _ _ f => f)
      replace kk := kk.trans k5
      clear hh hsz hcell k5
      go_wp2_with fail
      refine (HLn.out C _ hT.rc).mono ?_; rintro e wx ⟨rfl, hw⟩; replace hw := hw.symm; subst hw
      go_wp2_with fail
      refine (HDm.out C _ hT.rc).mono ?_; rintro e w6 ⟨cs, rfl, hh, hsz, hcell, k5⟩
      have hcv2 := HCd.out _ _ _ hh hcell
      replace hT := hT.kp k5 (fun _ _ f => f)
      replace kk := kk.trans k5
      clear hh hsz hcell k5
      go_wp2_with fail
      refine (HLn.out E _ hT.re).mono ?_; rintro e wx ⟨rfl, hw⟩; replace hw := hw.symm; subst hw
      go_wp2_with fail
      refine (HDm.out E _ hT.re).mono ?_; rintro e w7 ⟨cs, rfl, hh, hsz, hcell, k5⟩
      have hcv3 := HCd.out _ _ _ hh hcell
      replace hT := hT.kp k5 (fun _ _ f => f)
      replace kk := kk.trans k5
      clear hh hsz hcell k5
      have hs0 : Maps.size F = 0 := by have := hT.tc.g.size; omega
      have cK := tlKept_ok w7 H C 0 un F hT.tc
      rw [hs0] at cK
      clear hs0
      go_wp2_with fail
      refine cK.mono ?_; rintro e wx ⟨rfl, hw⟩; replace hw := hw.symm; subst hw
      go_wp2
      go_ret
      exact ⟨rfl, kk.every⟩
end Go.Proofs.Ytljlcejnadmgkaa
