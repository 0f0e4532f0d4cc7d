/- The walk of the statement TlbDrops: what is dropped is found anew. -/
import Derived.Test.YtljlcejnadmgkaaTlAwake
import Derived.Test.YtljlcejnadmgkaaTlOpen
import Derived.Test.YtljlcejnadmgkaaTlRange
namespace Go.Proofs.Ytljlcejnadmgkaa
open Go.ChangeShapes Go.WideShapes Go.ChangeAt Go.RowKit Go.Maps
set_option linter.unusedVariables false

def allT (B C K j : Nat) : Prop := inRam B 16 j ∨ inRam C 16 j ∨ inTlb K j
def allY (B C K Y j : Nat) : Prop := allT B C K j ∨ j = Y

def DrL (w : World) (B C K L k : Nat) (s : Value) (wr : World) : Prop :=
  ∃ (i : Nat) (M : Mem) (D : DataW Unit) (tn : Nat), s = .int .i64 i ∧ i ≤ L ∧ L - i ≤ k ∧ (M.n = 16 ∧ M.closed = false) ∧ RamAt wr B M ∧ RamAt wr C M ∧ TlbD wr K B 4 tn D ∧ tn ≤ i ∧ Kp noB w wr

set_option maxRecDepth 100000 in
set_option maxHeartbeats 20000000 in
theorem TlbDrops_walk (w : World) (a0 : Option Addr) (len0 cap0 : Nat) (wf wg : Nat → Int) (q0 : len0 ≤ 9223372036854775807) (ws0 : ∀ i, i < len0 → WordIn w a0 wf wg i)
    (a1 : Option Addr) (L cap1 : Nat) (q1 : L ≤ 9223372036854775807) (ws1 : ∀ i, i < L → AskIn w a1 i)
    (a2 : Option Addr) (L2 cap2 : Nat) (dg : Nat → Int) (q2 : L2 ≤ 9223372036854775807) (ws2 : ∀ i, i < L2 → DropIn w a2 dg i) :
    Calls Try.prog 7 #[.slice a0 len0 cap0, .slice a1 L cap1, .slice a2 L2 cap2] w fun e w' => e = .returned (.bool true) ∧ Below w.heap.size w w' := by
  have HB : Hid (∀ W, Kp noB w W → Calls Try.prog 9 #[.int .i64 16, .slice a0 len0 cap0, .slice none 0 0] W (BothPost W (memOf wf wg (fun _ => 0) len0 0))) := fun W kW => both_any W a0 none len0 cap0 0 0 wf wg (fun _ => 0) q0 (by omega) (fun i hi => (ws0 i hi).kp kW) (fun i hi => absurd hi (by omega))
  have HS : Hid (∀ i, i < L → AskIn w a1 i) := ws1
  have HT : Hid (∀ i, i < L2 → DropIn w a2 dg i) := ws2
  have hms := memOf_same wf wg (fun _ => 0) len0 0
  obtain ⟨M0, hM0⟩ : ∃ M0, M0 = memOf wf wg (fun _ => 0) len0 0 := ⟨_, rfl⟩
  rw [← hM0] at HB hms
  clear ws0 ws1 ws2 hM0
  go_enter Try.func7, Try.ntmps7
  go_wp2_with fail
  refine (tlAwake_any _).mono ?_; rintro e w1 ⟨rfl, k1⟩
  go_wp2_with fail
  refine (HB.out _ k1).mono ?_; rintro e w2 ⟨B, R, rfl, hB2, hout, k2⟩
  have hs1 := k1.size
  have HO : Hid (∀ j, inRam B 16 j → w.heap.size ≤ j) := fun j hj => by have := hout j (.inl hj); omega
  replace k2 := k1.trans k2
  have hra := hB2.ram
  clear k1 hout hs1 hB2
  go_wp2_with fail
  refine (HB.out _ k2).mono ?_; rintro e w3 ⟨C, R', rfl, hC3, hout, k3⟩
  have hs1 := k2.size
  have HO2 : Hid (∀ j, inRam C 16 j → w.heap.size ≤ j ∧ ¬ inRam B 16 j) := fun j hj => by
    have h1 := hout j (.inl hj)
    have h2 := hra.lt
    rw [hms.1] at h2
    exact ⟨by omega, fun f => by have := f.2; omega⟩
  replace hra := hra.kp k3 (fun _ _ f => f)
  replace k3 := k2.trans k3
  have hrc := hC3.ram
  clear k2 hout hs1 hC3 HB
  have cN := tlNew_ok w3 B 4 (by omega)
  go_wp2_with fail
  refine cN.mono ?_; rintro e w4 ⟨rfl, t4, k4⟩
  have l1 := hra.lt
  have l2 := hrc.lt
  rw [hms.1] at l1 l2
  have s3 := k3.size
  have HBC : Hid (∀ j, (inRam B 16 j ∨ inTlb w3.heap.size j) → ¬ inRam C 16 j) := fun j hj f => by
    rcases hj with g | g
    · exact (HO2.out j f).2 g
    · have := f.2; rcases g with e | e <;> omega
  have HCK : Hid (∀ j, inRam C 16 j → ¬ inTlb w3.heap.size j) := fun j f g => by have := f.2; rcases g with e | e <;> omega
  have HBK : Hid (∀ j, inTlb w3.heap.size j → ¬ inRam B 16 j) := fun j g f => by have := f.2; rcases g with e | e <;> omega
  have HOut : Hid (∀ j, allT B C w3.heap.size j → w.heap.size ≤ j) := fun j hj => by
    rcases hj with f | f | f
    · exact HO.out j f
    · exact (HO2.out j f).1
    · rcases f with e | e <;> omega
  replace hra := hra.kp k4 (fun _ _ f => f)
  replace hrc := hrc.kp k4 (fun _ _ f => f)
  replace k4 := k3.trans k4
  obtain ⟨K, hKe⟩ : ∃ K, K = w3.heap.size := ⟨_, rfl⟩
  rw [← hKe] at t4 HBC HCK HBK HOut ⊢
  clear hKe cN k3 l1 l2 s3 HO HO2
  go_wp2_with fail
  go_loopg [14] L (DrL w B C K L)
  case atStart => exact ⟨0, M0, _, 0, rfl, Nat.zero_le _, Nat.le_refl _, hms, hra, hrc, t4, Nat.zero_le _, k4⟩
  case round =>
    clear hra hrc t4 k4 hms
    obtain ⟨i, M, D, tn, rfl, hi1, hik, ⟨hMn, hMc⟩, hra, hrc, tl, htn, kk⟩ := hrel
    by_cases hlt : (i : Int) < (L : Int)
    · have hi' : i < L := by omega
      obtain ⟨j, hj⟩ : ∃ j, j = i + 1 := ⟨_, rfl⟩
      have HJ : Hid (j = i + 1) := hj
      have HKm : Hid (L - i ≤ gk) := hik
      have HTn : Hid (tn ≤ i) := htn
      have htn2 : tn < 18446744073709551614 := by omega
      clear hj hik htn
      by_cases hdr : i < L2
      · have hdr' : decide ((i : Int) < (L2 : Int)) = true := decide_eq_true (by omega)
        obtain ⟨dblk, doff, rfl, hdb, dc, dv0, dv1⟩ := (HT.out i hdr).kp kk
        have cK := tlKept_ok wr K B 4 tn D tl
        go_wp2_with fail
        refine cK.mono ?_; rintro e w4 ⟨rfl, hw⟩; replace hw := hw.symm; subst hw
        generalize dg i = dv at *
        have cD := tlDrop_ok wr K B 4 tn D tl dv dv0 dv1
        clear cK tl
        go_wp2_with fail
        refine cD.mono ?_; rintro e V0 ⟨rfl, ⟨D1, tl, hsz⟩, k4⟩
        replace hra := hra.kp k4 (fun j hj f => HBK.out j (.inl f) (by rw [hMn] at hj; exact hj))
        replace hrc := hrc.kp k4 (fun j hj f => HCK.out j (by rw [hMn] at hj; exact hj) (.inl f))
        replace kk := kk.over k4 (fun t ht f => by have := HOut.out t (.inr (.inr (.inl f))); omega)
        have hle : decide ((Maps.size D : Int) < (Maps.size D1 : Int)) = false := decide_eq_false (by omega)
        have hle2 : decide (Maps.size D < Maps.size D1) = false := decide_eq_false (by omega)
        have hle3 : ¬ Maps.size D < Maps.size D1 := by omega
        have cK := tlKept_ok V0 K B 4 tn D1 tl
        clear cD k4 dc hdb
        go_wp2_with fail
        refine cK.mono ?_; rintro e w4 ⟨rfl, hw⟩; replace hw := hw.symm; subst hw
        clear cK hsz
        obtain ⟨blk, off, c, l, xw, us, wp, rfl, hblk, s8, ⟨b0, b1, b2, b3⟩⟩ := (HS.out i hi').kp kk
        have hblk0 : blk < w.heap.size := by obtain ⟨b', o', _, _, _, _, _, e1, h2, _⟩ := HS.out i hi'; cases e1; exact h2
        obtain ⟨f, p, q, x, y, hwk⟩ := fWalk_is M c l xw us wp
        have cb := fCode_bd M c l xw us wp
        have hsm := fMem_same M c l xw us wp
        have HC : Hid (∀ W, TlbD W K B 4 tn D1 → RamAt W B M → Calls Try.prog 12 #[.pointer (some ⟨K + 1, 0, none⟩), .int .u32 c, .int .u32 l, .agg #[.bool xw, .bool us, .bool wp]] W (fun e w' => e = .returned (.tuple #[.agg #[.int .u32 f, .int .u32 p, .int .u32 q, .bool x, .bool y], .int .i64 (fCode M c l xw us wp), .int .i64 0]) ∧ RamAt w' B (fMem M c l xw us wp) ∧ (∃ D' tn', TlbD w' K B 4 tn' D' ∧ tn' ≤ tn + 1) ∧ Kp (fun j => inRam B 16 j ∨ inTlb K j) W w')) := fun W hW hW' => by
          have := tlFind_ok W K B 4 tn D1 M hW hW' hMc c l xw us wp b0 b1 b2 b3 htn2 (by rw [hMn]; exact HBK.out)
          unfold TfPost at this
          rw [hwk, hMn] at this
          exact this
        have HD : Hid (∀ W, RamAt W C M → Calls Try.prog 19 #[.pointer (some ⟨C + 3, 0, none⟩), .int .u32 c, .int .u32 l, .agg #[.bool xw, .bool us, .bool wp]] W (fun e w' => e = .returned (.tuple #[.agg #[.int .u32 f, .int .u32 p, .int .u32 q, .bool x, .bool y], .int .i64 (fCode M c l xw us wp), .int .i64 0]) ∧ RamAt w' C (fMem M c l xw us wp) ∧ Kp (inRam C 16) W w')) := fun W hW => by
          have := find_ok W C M hW c l xw us wp b0 b1 b2 b3
          unfold FdPost at this
          rw [hwk, hMn] at this
          exact this
        rw [hMn] at hsm
        obtain ⟨M', hM'⟩ : ∃ M', M' = fMem M c l xw us wp := ⟨_, rfl⟩
        obtain ⟨cd, hcd⟩ : ∃ cd, cd = fCode M c l xw us wp := ⟨_, rfl⟩
        rw [← hM'] at HC HD hsm
        rw [← hcd] at HC HD cb
        have hM1 : M'.n = 16 := hsm.1
        have hM2 : M'.closed = false := hsm.2.2.trans hMc
        obtain ⟨cb0, cb1⟩ := cb
        clear hwk hsm hM' hcd hMc
        have hbV : blk < V0.heap.size := Nat.lt_of_lt_of_le hblk0 kk.size
        have hVl : ∀ j, (fun j => inRam B 16 j ∨ inTlb K j) j → j < V0.heap.size := fun j hj => by
          rcases hj with f | f
          · have := hra.lt; rw [hMn] at this; have := f.2; omega
          · have := tl.lt; rcases f with e | e <;> omega
        have nNew : ¬ (fun j => inRam B 16 j ∨ inTlb K j) V0.heap.size := fun f => by have := hVl _ f; omega
        have HSG : Hid (∀ (T : Nat → Prop) (W W' : World), Kp T W W' → ¬ T blk → (W.cell? ⟨blk, off + i * 5, none⟩ = some (.int .u32 c) ∧ W.cell? ⟨blk, off + i * 5 + 1, none⟩ = some (.int .u32 l) ∧ W.cell? ⟨blk, off + i * 5 + 2, none⟩ = some (.bool xw) ∧ W.cell? ⟨blk, off + i * 5 + 3, none⟩ = some (.bool us) ∧ W.cell? ⟨blk, off + i * 5 + 4, none⟩ = some (.bool wp)) → (W'.cell? ⟨blk, off + i * 5, none⟩ = some (.int .u32 c) ∧ W'.cell? ⟨blk, off + i * 5 + 1, none⟩ = some (.int .u32 l) ∧ W'.cell? ⟨blk, off + i * 5 + 2, none⟩ = some (.bool xw) ∧ W'.cell? ⟨blk, off + i * 5 + 3, none⟩ = some (.bool us) ∧ W'.cell? ⟨blk, off + i * 5 + 4, none⟩ = some (.bool wp))) := fun T W W' k h1 ⟨a0, a1, a2, a3, a4⟩ => ⟨cell_kp a0 k h1, cell_kp a1 k h1, cell_kp a2 k h1, cell_kp a3 k h1, cell_kp a4 k h1⟩
        have HS0 : Hid (V0.drew.cell? ⟨blk, off + i * 5, none⟩ = some (.int .u32 c) ∧ V0.drew.cell? ⟨blk, off + i * 5 + 1, none⟩ = some (.int .u32 l) ∧ V0.drew.cell? ⟨blk, off + i * 5 + 2, none⟩ = some (.bool xw) ∧ V0.drew.cell? ⟨blk, off + i * 5 + 3, none⟩ = some (.bool us) ∧ V0.drew.cell? ⟨blk, off + i * 5 + 4, none⟩ = some (.bool wp)) := s8
        have HSD : Hid ((V0.alloc (.cells #[.int .u32 0, .int .u32 0, .int .u32 0, .bool false, .bool false] 45)).drew.cell? ⟨blk, off + i * 5, none⟩ = some (.int .u32 c) ∧ (V0.alloc (.cells #[.int .u32 0, .int .u32 0, .int .u32 0, .bool false, .bool false] 45)).drew.cell? ⟨blk, off + i * 5 + 1, none⟩ = some (.int .u32 l) ∧ (V0.alloc (.cells #[.int .u32 0, .int .u32 0, .int .u32 0, .bool false, .bool false] 45)).drew.cell? ⟨blk, off + i * 5 + 2, none⟩ = some (.bool xw) ∧ (V0.alloc (.cells #[.int .u32 0, .int .u32 0, .int .u32 0, .bool false, .bool false] 45)).drew.cell? ⟨blk, off + i * 5 + 3, none⟩ = some (.bool us) ∧ (V0.alloc (.cells #[.int .u32 0, .int .u32 0, .int .u32 0, .bool false, .bool false] 45)).drew.cell? ⟨blk, off + i * 5 + 4, none⟩ = some (.bool wp)) := HSG.out noB V0 _ ((Kp.alloc noB V0 (.cells #[.int .u32 0, .int .u32 0, .int .u32 0, .bool false, .bool false] 45)).drew) (fun f => f) s8
        have HSK : Hid (∀ W W', Kp (fun j => inRam B 16 j ∨ inTlb K j) W W' → (W.cell? ⟨blk, off + i * 5, none⟩ = some (.int .u32 c) ∧ W.cell? ⟨blk, off + i * 5 + 1, none⟩ = some (.int .u32 l) ∧ W.cell? ⟨blk, off + i * 5 + 2, none⟩ = some (.bool xw) ∧ W.cell? ⟨blk, off + i * 5 + 3, none⟩ = some (.bool us) ∧ W.cell? ⟨blk, off + i * 5 + 4, none⟩ = some (.bool wp)) → (W'.cell? ⟨blk, off + i * 5, none⟩ = some (.int .u32 c) ∧ W'.cell? ⟨blk, off + i * 5 + 1, none⟩ = some (.int .u32 l) ∧ W'.cell? ⟨blk, off + i * 5 + 2, none⟩ = some (.bool xw) ∧ W'.cell? ⟨blk, off + i * 5 + 3, none⟩ = some (.bool us) ∧ W'.cell? ⟨blk, off + i * 5 + 4, none⟩ = some (.bool wp))) := fun W W' k => HSG.out _ W W' k (fun f => by have := HOut.out _ (by rcases f with f | f; exact .inl f; exact .inr (.inr f)); omega)
        have HSA : Hid (∀ (W : World) (O : Obj), (W.cell? ⟨blk, off + i * 5, none⟩ = some (.int .u32 c) ∧ W.cell? ⟨blk, off + i * 5 + 1, none⟩ = some (.int .u32 l) ∧ W.cell? ⟨blk, off + i * 5 + 2, none⟩ = some (.bool xw) ∧ W.cell? ⟨blk, off + i * 5 + 3, none⟩ = some (.bool us) ∧ W.cell? ⟨blk, off + i * 5 + 4, none⟩ = some (.bool wp)) → ((W.alloc O).cell? ⟨blk, off + i * 5, none⟩ = some (.int .u32 c) ∧ (W.alloc O).cell? ⟨blk, off + i * 5 + 1, none⟩ = some (.int .u32 l) ∧ (W.alloc O).cell? ⟨blk, off + i * 5 + 2, none⟩ = some (.bool xw) ∧ (W.alloc O).cell? ⟨blk, off + i * 5 + 3, none⟩ = some (.bool us) ∧ (W.alloc O).cell? ⟨blk, off + i * 5 + 4, none⟩ = some (.bool wp))) := fun W O => HSG.out noB W _ (Kp.alloc noB W O) (fun f => f)
        have HSF : Hid (∀ (W : World), (W.cell? ⟨blk, off + i * 5, none⟩ = some (.int .u32 c) ∧ W.cell? ⟨blk, off + i * 5 + 1, none⟩ = some (.int .u32 l) ∧ W.cell? ⟨blk, off + i * 5 + 2, none⟩ = some (.bool xw) ∧ W.cell? ⟨blk, off + i * 5 + 3, none⟩ = some (.bool us) ∧ W.cell? ⟨blk, off + i * 5 + 4, none⟩ = some (.bool wp)) → ((((((W.setCell ⟨V0.heap.size, 0, none⟩ (.int .u32 f)).setCell ⟨V0.heap.size, 1, none⟩ (.int .u32 p)).setCell ⟨V0.heap.size, 2, none⟩ (.int .u32 q)).setCell ⟨V0.heap.size, 3, none⟩ (.bool x)).setCell ⟨V0.heap.size, 4, none⟩ (.bool y)).cell? ⟨blk, off + i * 5, none⟩ = some (.int .u32 c) ∧ (((((W.setCell ⟨V0.heap.size, 0, none⟩ (.int .u32 f)).setCell ⟨V0.heap.size, 1, none⟩ (.int .u32 p)).setCell ⟨V0.heap.size, 2, none⟩ (.int .u32 q)).setCell ⟨V0.heap.size, 3, none⟩ (.bool x)).setCell ⟨V0.heap.size, 4, none⟩ (.bool y)).cell? ⟨blk, off + i * 5 + 1, none⟩ = some (.int .u32 l) ∧ (((((W.setCell ⟨V0.heap.size, 0, none⟩ (.int .u32 f)).setCell ⟨V0.heap.size, 1, none⟩ (.int .u32 p)).setCell ⟨V0.heap.size, 2, none⟩ (.int .u32 q)).setCell ⟨V0.heap.size, 3, none⟩ (.bool x)).setCell ⟨V0.heap.size, 4, none⟩ (.bool y)).cell? ⟨blk, off + i * 5 + 2, none⟩ = some (.bool xw) ∧ (((((W.setCell ⟨V0.heap.size, 0, none⟩ (.int .u32 f)).setCell ⟨V0.heap.size, 1, none⟩ (.int .u32 p)).setCell ⟨V0.heap.size, 2, none⟩ (.int .u32 q)).setCell ⟨V0.heap.size, 3, none⟩ (.bool x)).setCell ⟨V0.heap.size, 4, none⟩ (.bool y)).cell? ⟨blk, off + i * 5 + 3, none⟩ = some (.bool us) ∧ (((((W.setCell ⟨V0.heap.size, 0, none⟩ (.int .u32 f)).setCell ⟨V0.heap.size, 1, none⟩ (.int .u32 p)).setCell ⟨V0.heap.size, 2, none⟩ (.int .u32 q)).setCell ⟨V0.heap.size, 3, none⟩ (.bool x)).setCell ⟨V0.heap.size, 4, none⟩ (.bool y)).cell? ⟨blk, off + i * 5 + 4, none⟩ = some (.bool wp))) := fun W => HSG.out _ W _ (Kp.five_in W V0.heap.size _ _ _ _ _) (by omega)
        have ha1 : RamAt V0.drew B M := hra.kept (fun _ _ => rfl)
        have ha2 : RamAt (V0.alloc (.cells #[.int .u32 0, .int .u32 0, .int .u32 0, .bool false, .bool false] 45)).drew B M := hra.kp ((Kp.alloc noB V0 (.cells #[.int .u32 0, .int .u32 0, .int .u32 0, .bool false, .bool false] 45)).drew) (fun _ _ f => f)
        have hb1 : TlbD V0.drew K B 4 tn D1 := tl.kept (fun _ _ => rfl)
        have hb2 : TlbD (V0.alloc (.cells #[.int .u32 0, .int .u32 0, .int .u32 0, .bool false, .bool false] 45)).drew K B 4 tn D1 := tl.kp ((Kp.alloc noB V0 (.cells #[.int .u32 0, .int .u32 0, .int .u32 0, .bool false, .bool false] 45)).drew) (fun _ _ f => f)
        have hAl : ∀ j, (allT B C K) j → j < V0.heap.size := fun j hj => by
          rcases hj with f | f | f
          · have := hra.lt; rw [hMn] at this; have := f.2; omega
          · have := hrc.lt; rw [hMn] at this; have := f.2; omega
          · have := tl.lt; rcases f with e | e <;> omega
        have HRZ : Hid (∀ W', Kp (fun j => inRam B 16 j ∨ inTlb K j) (V0.alloc (.cells #[.int .u32 0, .int .u32 0, .int .u32 0, .bool false, .bool false] 45)).drew W' → RowK W' V0.heap.size 0 0 0 false false) := fun W' k => by
          have r : RowK (V0.alloc (.cells #[.int .u32 0, .int .u32 0, .int .u32 0, .bool false, .bool false] 45)).drew V0.heap.size 0 0 0 false false := (MapKept.heap_alloc V0 (.cells #[.int .u32 0, .int .u32 0, .int .u32 0, .bool false, .bool false] 45)).1
          exact r.kp k nNew
        have HRF : Hid (∀ W', RowK W' V0.heap.size 0 0 0 false false → (W'.cell? ⟨V0.heap.size, 0, none⟩ = some (.int .u32 0) ∧ W'.cell? ⟨V0.heap.size, 1, none⟩ = some (.int .u32 0) ∧ W'.cell? ⟨V0.heap.size, 2, none⟩ = some (.int .u32 0) ∧ W'.cell? ⟨V0.heap.size, 3, none⟩ = some (.bool false) ∧ W'.cell? ⟨V0.heap.size, 4, none⟩ = some (.bool false) ∧ W'.frozen? ⟨V0.heap.size, 0, none⟩ = false ∧ W'.frozen? ⟨V0.heap.size, 1, none⟩ = false ∧ W'.frozen? ⟨V0.heap.size, 2, none⟩ = false ∧ W'.frozen? ⟨V0.heap.size, 3, none⟩ = false ∧ W'.frozen? ⟨V0.heap.size, 4, none⟩ = false)) := fun W' r => ⟨r.c0, r.c1, r.c2, r.c3, r.c4, r.fz 0, r.fz 1, r.fz 2, r.fz 3, r.fz 4⟩
        clear s8
        go_upto_region 15 with fail
        go_region_held3 (fun W => (W.cell? ⟨blk, off + i * 5, none⟩ = some (.int .u32 c) ∧ W.cell? ⟨blk, off + i * 5 + 1, none⟩ = some (.int .u32 l) ∧ W.cell? ⟨blk, off + i * 5 + 2, none⟩ = some (.bool xw) ∧ W.cell? ⟨blk, off + i * 5 + 3, none⟩ = some (.bool us) ∧ W.cell? ⟨blk, off + i * 5 + 4, none⟩ = some (.bool wp)))
          (first | with_reducible exact HS0.out | with_reducible exact HSD.out | with_reducible exact HSK.out _ _ k4 HS0.out | with_reducible exact HSK.out _ _ k4 HSD.out | with_reducible exact HSA.out _ _ (HSK.out _ _ k4 HS0.out) | with_reducible exact HSF.out _ (HSK.out _ _ k4 HSD.out))
          (first
            | (go_at_call 12; refine (HC.out _ (by assumption) (by assumption)).mono ?_; rintro e w4 ⟨rfl, hr4, ⟨D4, tn4, t4, ht4⟩, k4⟩; (first | ((with_reducible have rz := HRZ.out _ k4); obtain ⟨z0, z1, z2, z3, z4, y0, y1, y2, y3, y4⟩ := HRF.out _ rz) | skip)))
        · have k4' : Kp (fun j => inRam B 16 j ∨ inTlb K j) V0 w4 := ⟨k4.os, k4.tape, k4.output, k4.size, k4.block⟩
          have kA := Kp.alloc noB w4 (.cells #[.int .u32 f, .int .u32 p, .int .u32 q, .bool x, .bool y] 45)
          have rW1 : RowK (w4.alloc (.cells #[.int .u32 f, .int .u32 p, .int .u32 q, .bool x, .bool y] 45)) w4.heap.size f p q x y := (MapKept.heap_alloc w4 _).1
          have hY : V0.heap.size ≤ w4.heap.size := k4'.size
          have s8 := HSA.out w4 (.cells #[.int .u32 f, .int .u32 p, .int .u32 q, .bool x, .bool y] 45) (HSK.out _ _ k4 HS0.out)
          replace k4' : Kp (fun j => inRam B 16 j ∨ inTlb K j) V0 (w4.alloc (.cells #[.int .u32 f, .int .u32 p, .int .u32 q, .bool x, .bool y] 45)) := k4'.over kA (fun _ _ f => f.elim)
          replace hr4 : RamAt (w4.alloc (.cells #[.int .u32 f, .int .u32 p, .int .u32 q, .bool x, .bool y] 45)) B M' := hr4.kp kA (fun _ _ f => f)
          replace t4 : TlbD (w4.alloc (.cells #[.int .u32 f, .int .u32 p, .int .u32 q, .bool x, .bool y] 45)) K B 4 tn4 D4 := t4.kp kA (fun _ _ f => f)
          have hc4 : RamAt (w4.alloc (.cells #[.int .u32 f, .int .u32 p, .int .u32 q, .bool x, .bool y] 45)) C M := hrc.kp k4' (fun j hj f => by rw [hMn] at hj; rcases f with f | f; exact HBC.out j (.inl f) hj; exact HCK.out j hj f)
          have kk4 : Kp noB w (w4.alloc (.cells #[.int .u32 f, .int .u32 p, .int .u32 q, .bool x, .bool y] 45)) := kk.over k4' (fun t ht f => by have := HOut.out t (by rcases f with f | f; exact .inl f; exact .inr (.inr f)); omega)
          clear kk hrc hra tl ha1 ha2 hb1 hb2
          clear HS0 HSD HSK HSA HSF HRZ HRF k4 kA HSG
          obtain ⟨Y1, hYe⟩ : ∃ Y, Y = w4.heap.size := ⟨_, rfl⟩
          obtain ⟨V1, hgen⟩ : ∃ W, W = (w4.alloc (.cells #[.int .u32 f, .int .u32 p, .int .u32 q, .bool x, .bool y] 45)) := ⟨_, rfl⟩
          rw [← hgen] at hr4 t4 hc4 kk4 s8 rW1 ⊢
          rw [← hYe] at rW1 hY ⊢
          have hYn : ∀ j, (allT B C K) j → ¬ j = Y1 := fun j hj e => by have := hAl j hj; omega
          clear hYe hgen nNew hVl hY hbV k4'
          rename Kp noB w V1 => kk
          have hbV : blk < V1.heap.size := Nat.lt_of_lt_of_le hblk0 kk.size
          have hVl : ∀ j, (inRam C 16) j → j < V1.heap.size := fun j hj => by
            have := hc4.lt; rw [hMn] at this; have := hj.2; omega
          have nNew : ¬ (inRam C 16) V1.heap.size := fun f => by have := hVl _ f; omega
          have HSG : Hid (∀ (T : Nat → Prop) (W W' : World), Kp T W W' → ¬ T blk → (W.cell? ⟨blk, off + i * 5, none⟩ = some (.int .u32 c) ∧ W.cell? ⟨blk, off + i * 5 + 1, none⟩ = some (.int .u32 l) ∧ W.cell? ⟨blk, off + i * 5 + 2, none⟩ = some (.bool xw) ∧ W.cell? ⟨blk, off + i * 5 + 3, none⟩ = some (.bool us) ∧ W.cell? ⟨blk, off + i * 5 + 4, none⟩ = some (.bool wp)) → (W'.cell? ⟨blk, off + i * 5, none⟩ = some (.int .u32 c) ∧ W'.cell? ⟨blk, off + i * 5 + 1, none⟩ = some (.int .u32 l) ∧ W'.cell? ⟨blk, off + i * 5 + 2, none⟩ = some (.bool xw) ∧ W'.cell? ⟨blk, off + i * 5 + 3, none⟩ = some (.bool us) ∧ W'.cell? ⟨blk, off + i * 5 + 4, none⟩ = some (.bool wp))) := fun T W W' k h1 ⟨a0, a1, a2, a3, a4⟩ => ⟨cell_kp a0 k h1, cell_kp a1 k h1, cell_kp a2 k h1, cell_kp a3 k h1, cell_kp a4 k h1⟩
          have HS0 : Hid (V1.drew.cell? ⟨blk, off + i * 5, none⟩ = some (.int .u32 c) ∧ V1.drew.cell? ⟨blk, off + i * 5 + 1, none⟩ = some (.int .u32 l) ∧ V1.drew.cell? ⟨blk, off + i * 5 + 2, none⟩ = some (.bool xw) ∧ V1.drew.cell? ⟨blk, off + i * 5 + 3, none⟩ = some (.bool us) ∧ V1.drew.cell? ⟨blk, off + i * 5 + 4, none⟩ = some (.bool wp)) := s8
          have HSD : Hid ((V1.alloc (.cells #[.int .u32 0, .int .u32 0, .int .u32 0, .bool false, .bool false] 45)).drew.cell? ⟨blk, off + i * 5, none⟩ = some (.int .u32 c) ∧ (V1.alloc (.cells #[.int .u32 0, .int .u32 0, .int .u32 0, .bool false, .bool false] 45)).drew.cell? ⟨blk, off + i * 5 + 1, none⟩ = some (.int .u32 l) ∧ (V1.alloc (.cells #[.int .u32 0, .int .u32 0, .int .u32 0, .bool false, .bool false] 45)).drew.cell? ⟨blk, off + i * 5 + 2, none⟩ = some (.bool xw) ∧ (V1.alloc (.cells #[.int .u32 0, .int .u32 0, .int .u32 0, .bool false, .bool false] 45)).drew.cell? ⟨blk, off + i * 5 + 3, none⟩ = some (.bool us) ∧ (V1.alloc (.cells #[.int .u32 0, .int .u32 0, .int .u32 0, .bool false, .bool false] 45)).drew.cell? ⟨blk, off + i * 5 + 4, none⟩ = some (.bool wp)) := HSG.out noB V1 _ ((Kp.alloc noB V1 (.cells #[.int .u32 0, .int .u32 0, .int .u32 0, .bool false, .bool false] 45)).drew) (fun f => f) s8
          have HSK : Hid (∀ W W', Kp (inRam C 16) W W' → (W.cell? ⟨blk, off + i * 5, none⟩ = some (.int .u32 c) ∧ W.cell? ⟨blk, off + i * 5 + 1, none⟩ = some (.int .u32 l) ∧ W.cell? ⟨blk, off + i * 5 + 2, none⟩ = some (.bool xw) ∧ W.cell? ⟨blk, off + i * 5 + 3, none⟩ = some (.bool us) ∧ W.cell? ⟨blk, off + i * 5 + 4, none⟩ = some (.bool wp)) → (W'.cell? ⟨blk, off + i * 5, none⟩ = some (.int .u32 c) ∧ W'.cell? ⟨blk, off + i * 5 + 1, none⟩ = some (.int .u32 l) ∧ W'.cell? ⟨blk, off + i * 5 + 2, none⟩ = some (.bool xw) ∧ W'.cell? ⟨blk, off + i * 5 + 3, none⟩ = some (.bool us) ∧ W'.cell? ⟨blk, off + i * 5 + 4, none⟩ = some (.bool wp))) := fun W W' k => HSG.out _ W W' k (fun f => by have := HOut.out _ (.inr (.inl f)); omega)
          have HSA : Hid (∀ (W : World) (O : Obj), (W.cell? ⟨blk, off + i * 5, none⟩ = some (.int .u32 c) ∧ W.cell? ⟨blk, off + i * 5 + 1, none⟩ = some (.int .u32 l) ∧ W.cell? ⟨blk, off + i * 5 + 2, none⟩ = some (.bool xw) ∧ W.cell? ⟨blk, off + i * 5 + 3, none⟩ = some (.bool us) ∧ W.cell? ⟨blk, off + i * 5 + 4, none⟩ = some (.bool wp)) → ((W.alloc O).cell? ⟨blk, off + i * 5, none⟩ = some (.int .u32 c) ∧ (W.alloc O).cell? ⟨blk, off + i * 5 + 1, none⟩ = some (.int .u32 l) ∧ (W.alloc O).cell? ⟨blk, off + i * 5 + 2, none⟩ = some (.bool xw) ∧ (W.alloc O).cell? ⟨blk, off + i * 5 + 3, none⟩ = some (.bool us) ∧ (W.alloc O).cell? ⟨blk, off + i * 5 + 4, none⟩ = some (.bool wp))) := fun W O => HSG.out noB W _ (Kp.alloc noB W O) (fun f => f)
          have HSF : Hid (∀ (W : World), (W.cell? ⟨blk, off + i * 5, none⟩ = some (.int .u32 c) ∧ W.cell? ⟨blk, off + i * 5 + 1, none⟩ = some (.int .u32 l) ∧ W.cell? ⟨blk, off + i * 5 + 2, none⟩ = some (.bool xw) ∧ W.cell? ⟨blk, off + i * 5 + 3, none⟩ = some (.bool us) ∧ W.cell? ⟨blk, off + i * 5 + 4, none⟩ = some (.bool wp)) → ((((((W.setCell ⟨V1.heap.size, 0, none⟩ (.int .u32 f)).setCell ⟨V1.heap.size, 1, none⟩ (.int .u32 p)).setCell ⟨V1.heap.size, 2, none⟩ (.int .u32 q)).setCell ⟨V1.heap.size, 3, none⟩ (.bool x)).setCell ⟨V1.heap.size, 4, none⟩ (.bool y)).cell? ⟨blk, off + i * 5, none⟩ = some (.int .u32 c) ∧ (((((W.setCell ⟨V1.heap.size, 0, none⟩ (.int .u32 f)).setCell ⟨V1.heap.size, 1, none⟩ (.int .u32 p)).setCell ⟨V1.heap.size, 2, none⟩ (.int .u32 q)).setCell ⟨V1.heap.size, 3, none⟩ (.bool x)).setCell ⟨V1.heap.size, 4, none⟩ (.bool y)).cell? ⟨blk, off + i * 5 + 1, none⟩ = some (.int .u32 l) ∧ (((((W.setCell ⟨V1.heap.size, 0, none⟩ (.int .u32 f)).setCell ⟨V1.heap.size, 1, none⟩ (.int .u32 p)).setCell ⟨V1.heap.size, 2, none⟩ (.int .u32 q)).setCell ⟨V1.heap.size, 3, none⟩ (.bool x)).setCell ⟨V1.heap.size, 4, none⟩ (.bool y)).cell? ⟨blk, off + i * 5 + 2, none⟩ = some (.bool xw) ∧ (((((W.setCell ⟨V1.heap.size, 0, none⟩ (.int .u32 f)).setCell ⟨V1.heap.size, 1, none⟩ (.int .u32 p)).setCell ⟨V1.heap.size, 2, none⟩ (.int .u32 q)).setCell ⟨V1.heap.size, 3, none⟩ (.bool x)).setCell ⟨V1.heap.size, 4, none⟩ (.bool y)).cell? ⟨blk, off + i * 5 + 3, none⟩ = some (.bool us) ∧ (((((W.setCell ⟨V1.heap.size, 0, none⟩ (.int .u32 f)).setCell ⟨V1.heap.size, 1, none⟩ (.int .u32 p)).setCell ⟨V1.heap.size, 2, none⟩ (.int .u32 q)).setCell ⟨V1.heap.size, 3, none⟩ (.bool x)).setCell ⟨V1.heap.size, 4, none⟩ (.bool y)).cell? ⟨blk, off + i * 5 + 4, none⟩ = some (.bool wp))) := fun W => HSG.out _ W _ (Kp.five_in W V1.heap.size _ _ _ _ _) (by omega)
          have ha1 : RamAt V1.drew C M := hc4.kept (fun _ _ => rfl)
          have ha2 : RamAt (V1.alloc (.cells #[.int .u32 0, .int .u32 0, .int .u32 0, .bool false, .bool false] 45)).drew C M := hc4.kp ((Kp.alloc noB V1 (.cells #[.int .u32 0, .int .u32 0, .int .u32 0, .bool false, .bool false] 45)).drew) (fun _ _ f => f)
          have hAl : ∀ j, (allY B C K Y1) j → j < V1.heap.size := fun j hj => by
            rcases hj with (f | f | f) | f
            · have := hr4.lt; rw [hM1] at this; have := f.2; omega
            · have := hc4.lt; rw [hMn] at this; have := f.2; omega
            · have := t4.lt; rcases f with e | e <;> omega
            · have := rW1.lt; omega
          have HRZ : Hid (∀ W', Kp (inRam C 16) (V1.alloc (.cells #[.int .u32 0, .int .u32 0, .int .u32 0, .bool false, .bool false] 45)).drew W' → RowK W' V1.heap.size 0 0 0 false false) := fun W' k => by
            have r : RowK (V1.alloc (.cells #[.int .u32 0, .int .u32 0, .int .u32 0, .bool false, .bool false] 45)).drew V1.heap.size 0 0 0 false false := (MapKept.heap_alloc V1 (.cells #[.int .u32 0, .int .u32 0, .int .u32 0, .bool false, .bool false] 45)).1
            exact r.kp k nNew
          have HRF : Hid (∀ W', RowK W' V1.heap.size 0 0 0 false false → (W'.cell? ⟨V1.heap.size, 0, none⟩ = some (.int .u32 0) ∧ W'.cell? ⟨V1.heap.size, 1, none⟩ = some (.int .u32 0) ∧ W'.cell? ⟨V1.heap.size, 2, none⟩ = some (.int .u32 0) ∧ W'.cell? ⟨V1.heap.size, 3, none⟩ = some (.bool false) ∧ W'.cell? ⟨V1.heap.size, 4, none⟩ = some (.bool false) ∧ W'.frozen? ⟨V1.heap.size, 0, none⟩ = false ∧ W'.frozen? ⟨V1.heap.size, 1, none⟩ = false ∧ W'.frozen? ⟨V1.heap.size, 2, none⟩ = false ∧ W'.frozen? ⟨V1.heap.size, 3, none⟩ = false ∧ W'.frozen? ⟨V1.heap.size, 4, none⟩ = false)) := fun W' r => ⟨r.c0, r.c1, r.c2, r.c3, r.c4, r.fz 0, r.fz 1, r.fz 2, r.fz 3, r.fz 4⟩
          clear s8
          go_upto_region 16 with fail
          go_region_held3 (fun W => (W.cell? ⟨blk, off + i * 5, none⟩ = some (.int .u32 c) ∧ W.cell? ⟨blk, off + i * 5 + 1, none⟩ = some (.int .u32 l) ∧ W.cell? ⟨blk, off + i * 5 + 2, none⟩ = some (.bool xw) ∧ W.cell? ⟨blk, off + i * 5 + 3, none⟩ = some (.bool us) ∧ W.cell? ⟨blk, off + i * 5 + 4, none⟩ = some (.bool wp)))
            (first | with_reducible exact HS0.out | with_reducible exact HSD.out | with_reducible exact HSK.out _ _ k4 HS0.out | with_reducible exact HSK.out _ _ k4 HSD.out | with_reducible exact HSA.out _ _ (HSK.out _ _ k4 HS0.out) | with_reducible exact HSF.out _ (HSK.out _ _ k4 HSD.out))
            (first
              | (go_at_call 19; refine (HD.out _ (by assumption)).mono ?_; rintro e w4 ⟨rfl, hc5, k4⟩; (first | ((with_reducible have rz := HRZ.out _ k4); obtain ⟨z0, z1, z2, z3, z4, y0, y1, y2, y3, y4⟩ := HRF.out _ rz) | skip)))
          · have k4' : Kp (inRam C 16) V1 w4 := ⟨k4.os, k4.tape, k4.output, k4.size, k4.block⟩
            have kA := Kp.alloc noB w4 (.cells #[.int .u32 f, .int .u32 p, .int .u32 q, .bool x, .bool y] 45)
            have rW2 : RowK (w4.alloc (.cells #[.int .u32 f, .int .u32 p, .int .u32 q, .bool x, .bool y] 45)) w4.heap.size f p q x y := (MapKept.heap_alloc w4 _).1
            have hY : V1.heap.size ≤ w4.heap.size := k4'.size
            have s8 := HSA.out w4 (.cells #[.int .u32 f, .int .u32 p, .int .u32 q, .bool x, .bool y] 45) (HSK.out _ _ k4 HS0.out)
            replace k4' : Kp (inRam C 16) V1 (w4.alloc (.cells #[.int .u32 f, .int .u32 p, .int .u32 q, .bool x, .bool y] 45)) := k4'.over kA (fun _ _ f => f.elim)
            replace hc5 : RamAt (w4.alloc (.cells #[.int .u32 f, .int .u32 p, .int .u32 q, .bool x, .bool y] 45)) C M' := hc5.kp kA (fun _ _ f => f)
            have hr5 : RamAt (w4.alloc (.cells #[.int .u32 f, .int .u32 p, .int .u32 q, .bool x, .bool y] 45)) B M' := hr4.kp k4' (fun j hj f => by rw [hM1] at hj; exact HBC.out j (.inl hj) f)
            have t5 : TlbD (w4.alloc (.cells #[.int .u32 f, .int .u32 p, .int .u32 q, .bool x, .bool y] 45)) K B 4 tn4 D4 := t4.kp k4' (fun j hj f => HCK.out j f hj)
            have nY : ¬ inRam C 16 Y1 := fun f => hYn Y1 (.inr (.inl f)) rfl
            replace rW1 := rW1.kp k4' nY
            have kk5 : Kp noB w (w4.alloc (.cells #[.int .u32 f, .int .u32 p, .int .u32 q, .bool x, .bool y] 45)) := kk.over k4' (fun t ht f => by have := HOut.out t (.inr (.inl f)); omega)
            clear kk hc4 hr4 t4 ha1 ha2 nY hYn
            clear HS0 HSD HSK HSA HSF HRZ HRF k4 kA HSG
            obtain ⟨Y2, hYe⟩ : ∃ Y, Y = w4.heap.size := ⟨_, rfl⟩
            obtain ⟨V2, hgen⟩ : ∃ W, W = (w4.alloc (.cells #[.int .u32 f, .int .u32 p, .int .u32 q, .bool x, .bool y] 45)) := ⟨_, rfl⟩
            rw [← hgen] at hc5 hr5 t5 rW1 kk5 s8 rW2 ⊢
            rw [← hYe] at rW2 hY ⊢
            have hYn : ∀ j, (allY B C K Y1) j → ¬ j = Y2 := fun j hj e => by have := hAl j hj; omega
            clear hYe hgen nNew hVl hY hbV k4'
            have d0 := rW1.c0; have d1 := rW1.c1; have d2 := rW1.c2; have d3 := rW1.c3; have d4 := rW1.c4
            have g0 := rW2.c0; have g1 := rW2.c1; have g2 := rW2.c2; have g3 := rW2.c3; have g4 := rW2.c4
            clear HC HD hYn
            go_wp2_with fail
            go_roundg (L - j)
            case measure => have := HJ.out; have := HKm.out; omega
            case rel => exact ⟨j, M', D4, tn4, by rw [HJ.out]; rfl, by have := HJ.out; omega, Nat.le_refl _, ⟨hM1, hM2⟩, hr5, hc5, t5, by have := HJ.out; have := HTn.out; omega, kk5⟩
          · have k4' : Kp (inRam C 16) (V1.alloc (.cells #[.int .u32 0, .int .u32 0, .int .u32 0, .bool false, .bool false] 45)) w4 := ⟨k4.os, k4.tape, k4.output, k4.size, k4.block⟩
            have kA : Kp (inRam C 16) V1 (V1.alloc (.cells #[.int .u32 0, .int .u32 0, .int .u32 0, .bool false, .bool false] 45)) := Kp.alloc _ V1 _
            replace k4' := kA.trans k4'
            have rW2 : RowK (((((w4.setCell ⟨V1.heap.size, 0, none⟩ (.int .u32 f)).setCell ⟨V1.heap.size, 1, none⟩ (.int .u32 p)).setCell ⟨V1.heap.size, 2, none⟩ (.int .u32 q)).setCell ⟨V1.heap.size, 3, none⟩ (.bool x)).setCell ⟨V1.heap.size, 4, none⟩ (.bool y)) V1.heap.size f p q x y := ((((rz.s0 f).s1 p).s2 q).s3 x).s4 y
            have kF := Kp.five_in w4 V1.heap.size (.int .u32 f) (.int .u32 p) (.int .u32 q) (.bool x) (.bool y)
            have s8 := HSF.out w4 (HSK.out _ _ k4 HSD.out)
            have nI : ∀ j, (allY B C K Y1) j → ¬ j = V1.heap.size := fun j hj e => by have := hAl j hj; omega
            replace hc5 : RamAt (((((w4.setCell ⟨V1.heap.size, 0, none⟩ (.int .u32 f)).setCell ⟨V1.heap.size, 1, none⟩ (.int .u32 p)).setCell ⟨V1.heap.size, 2, none⟩ (.int .u32 q)).setCell ⟨V1.heap.size, 3, none⟩ (.bool x)).setCell ⟨V1.heap.size, 4, none⟩ (.bool y)) C M' := hc5.kp kF (fun j hj => nI j (.inl (.inr (.inl (by rw [hM1] at hj; exact hj)))))
            have hr5 : RamAt (((((w4.setCell ⟨V1.heap.size, 0, none⟩ (.int .u32 f)).setCell ⟨V1.heap.size, 1, none⟩ (.int .u32 p)).setCell ⟨V1.heap.size, 2, none⟩ (.int .u32 q)).setCell ⟨V1.heap.size, 3, none⟩ (.bool x)).setCell ⟨V1.heap.size, 4, none⟩ (.bool y)) B M' := (hr4.kp k4' (fun j hj f => by rw [hM1] at hj; exact HBC.out j (.inl hj) f)).kp kF (fun j hj => nI j (.inl (.inl (by rw [hM1] at hj; exact hj))))
            have t5 : TlbD (((((w4.setCell ⟨V1.heap.size, 0, none⟩ (.int .u32 f)).setCell ⟨V1.heap.size, 1, none⟩ (.int .u32 p)).setCell ⟨V1.heap.size, 2, none⟩ (.int .u32 q)).setCell ⟨V1.heap.size, 3, none⟩ (.bool x)).setCell ⟨V1.heap.size, 4, none⟩ (.bool y)) K B 4 tn4 D4 := (t4.kp k4' (fun j hj f => HCK.out j f hj)).kp kF (fun j hj => nI j (.inl (.inr (.inr hj))))
            have nY : ¬ inRam C 16 Y1 := fun f => hYn Y1 (.inr (.inl f)) rfl
            replace rW1 := (rW1.kp k4' nY).kp kF (nI Y1 (.inr rfl))
            have kk5 : Kp noB w (((((w4.setCell ⟨V1.heap.size, 0, none⟩ (.int .u32 f)).setCell ⟨V1.heap.size, 1, none⟩ (.int .u32 p)).setCell ⟨V1.heap.size, 2, none⟩ (.int .u32 q)).setCell ⟨V1.heap.size, 3, none⟩ (.bool x)).setCell ⟨V1.heap.size, 4, none⟩ (.bool y)) := (kk.over k4' (fun t ht f => by have := HOut.out t (.inr (.inl f)); omega)).five kk.size _ _ _ _ _
            clear kk hc4 hr4 t4 ha1 ha2 nI nY hYn
            clear HS0 HSD HSK HSA HSF HRZ HRF k4 kA kF HSG rz z0 z1 z2 z3 z4 y0 y1 y2 y3 y4
            obtain ⟨Y2, hYe⟩ : ∃ Y, Y = V1.heap.size := ⟨_, rfl⟩
            obtain ⟨V2, hgen⟩ : ∃ W, W = (((((w4.setCell ⟨V1.heap.size, 0, none⟩ (.int .u32 f)).setCell ⟨V1.heap.size, 1, none⟩ (.int .u32 p)).setCell ⟨V1.heap.size, 2, none⟩ (.int .u32 q)).setCell ⟨V1.heap.size, 3, none⟩ (.bool x)).setCell ⟨V1.heap.size, 4, none⟩ (.bool y)) := ⟨_, rfl⟩
            rw [← hgen] at hc5 hr5 t5 rW1 kk5 s8 rW2 ⊢
            rw [← hYe] at rW2 ⊢
            have hYn : ∀ j, (allY B C K Y1) j → ¬ j = Y2 := fun j hj e => by have := hAl j hj; omega
            clear hYe hgen nNew hVl hbV k4'
            have d0 := rW1.c0; have d1 := rW1.c1; have d2 := rW1.c2; have d3 := rW1.c3; have d4 := rW1.c4
            have g0 := rW2.c0; have g1 := rW2.c1; have g2 := rW2.c2; have g3 := rW2.c3; have g4 := rW2.c4
            clear HC HD hYn
            go_wp2_with fail
            go_roundg (L - j)
            case measure => have := HJ.out; have := HKm.out; omega
            case rel => exact ⟨j, M', D4, tn4, by rw [HJ.out]; rfl, by have := HJ.out; omega, Nat.le_refl _, ⟨hM1, hM2⟩, hr5, hc5, t5, by have := HJ.out; have := HTn.out; omega, kk5⟩
        · have k4' : Kp (fun j => inRam B 16 j ∨ inTlb K j) (V0.alloc (.cells #[.int .u32 0, .int .u32 0, .int .u32 0, .bool false, .bool false] 45)) w4 := ⟨k4.os, k4.tape, k4.output, k4.size, k4.block⟩
          have kA : Kp (fun j => inRam B 16 j ∨ inTlb K j) V0 (V0.alloc (.cells #[.int .u32 0, .int .u32 0, .int .u32 0, .bool false, .bool false] 45)) := Kp.alloc _ V0 _
          replace k4' := kA.trans k4'
          have rW1 : RowK (((((w4.setCell ⟨V0.heap.size, 0, none⟩ (.int .u32 f)).setCell ⟨V0.heap.size, 1, none⟩ (.int .u32 p)).setCell ⟨V0.heap.size, 2, none⟩ (.int .u32 q)).setCell ⟨V0.heap.size, 3, none⟩ (.bool x)).setCell ⟨V0.heap.size, 4, none⟩ (.bool y)) V0.heap.size f p q x y := ((((rz.s0 f).s1 p).s2 q).s3 x).s4 y
          have kF := Kp.five_in w4 V0.heap.size (.int .u32 f) (.int .u32 p) (.int .u32 q) (.bool x) (.bool y)
          have s8 := HSF.out w4 (HSK.out _ _ k4 HSD.out)
          have nI : ∀ j, inTlb K j → ¬ j = V0.heap.size := fun j hj e => by have := hAl j (.inr (.inr hj)); omega
          replace hr4 : RamAt (((((w4.setCell ⟨V0.heap.size, 0, none⟩ (.int .u32 f)).setCell ⟨V0.heap.size, 1, none⟩ (.int .u32 p)).setCell ⟨V0.heap.size, 2, none⟩ (.int .u32 q)).setCell ⟨V0.heap.size, 3, none⟩ (.bool x)).setCell ⟨V0.heap.size, 4, none⟩ (.bool y)) B M' := hr4.kp kF (fun j hj e => by rw [hM1] at hj; have := hAl j (.inl hj); omega)
          replace t4 : TlbD (((((w4.setCell ⟨V0.heap.size, 0, none⟩ (.int .u32 f)).setCell ⟨V0.heap.size, 1, none⟩ (.int .u32 p)).setCell ⟨V0.heap.size, 2, none⟩ (.int .u32 q)).setCell ⟨V0.heap.size, 3, none⟩ (.bool x)).setCell ⟨V0.heap.size, 4, none⟩ (.bool y)) K B 4 tn4 D4 := t4.kp kF nI
          have hc4 : RamAt (((((w4.setCell ⟨V0.heap.size, 0, none⟩ (.int .u32 f)).setCell ⟨V0.heap.size, 1, none⟩ (.int .u32 p)).setCell ⟨V0.heap.size, 2, none⟩ (.int .u32 q)).setCell ⟨V0.heap.size, 3, none⟩ (.bool x)).setCell ⟨V0.heap.size, 4, none⟩ (.bool y)) C M := (hrc.kp k4' (fun j hj f => by rw [hMn] at hj; rcases f with f | f; exact HBC.out j (.inl f) hj; exact HCK.out j hj f)).kp kF (fun j hj e => by rw [hMn] at hj; have := hAl j (.inr (.inl hj)); omega)
          have kk4 : Kp noB w (((((w4.setCell ⟨V0.heap.size, 0, none⟩ (.int .u32 f)).setCell ⟨V0.heap.size, 1, none⟩ (.int .u32 p)).setCell ⟨V0.heap.size, 2, none⟩ (.int .u32 q)).setCell ⟨V0.heap.size, 3, none⟩ (.bool x)).setCell ⟨V0.heap.size, 4, none⟩ (.bool y)) := (kk.over k4' (fun t ht f => by have := HOut.out t (by rcases f with f | f; exact .inl f; exact .inr (.inr f)); omega)).five kk.size _ _ _ _ _
          clear kk hrc hra tl ha1 ha2 hb1 hb2 nI
          clear HS0 HSD HSK HSA HSF HRZ HRF k4 kA kF HSG rz z0 z1 z2 z3 z4 y0 y1 y2 y3 y4
          obtain ⟨Y1, hYe⟩ : ∃ Y, Y = V0.heap.size := ⟨_, rfl⟩
          obtain ⟨V1, hgen⟩ : ∃ W, W = (((((w4.setCell ⟨V0.heap.size, 0, none⟩ (.int .u32 f)).setCell ⟨V0.heap.size, 1, none⟩ (.int .u32 p)).setCell ⟨V0.heap.size, 2, none⟩ (.int .u32 q)).setCell ⟨V0.heap.size, 3, none⟩ (.bool x)).setCell ⟨V0.heap.size, 4, none⟩ (.bool y)) := ⟨_, rfl⟩
          rw [← hgen] at hr4 t4 hc4 kk4 s8 rW1 ⊢
          rw [← hYe] at rW1 ⊢
          have hYn : ∀ j, (allT B C K) j → ¬ j = Y1 := fun j hj e => by have := hAl j hj; omega
          clear hYe hgen nNew hVl hbV k4'
          rename Kp noB w V1 => kk
          have hbV : blk < V1.heap.size := Nat.lt_of_lt_of_le hblk0 kk.size
          have hVl : ∀ j, (inRam C 16) j → j < V1.heap.size := fun j hj => by
            have := hc4.lt; rw [hMn] at this; have := hj.2; omega
          have nNew : ¬ (inRam C 16) V1.heap.size := fun f => by have := hVl _ f; omega
          have HSG : Hid (∀ (T : Nat → Prop) (W W' : World), Kp T W W' → ¬ T blk → (W.cell? ⟨blk, off + i * 5, none⟩ = some (.int .u32 c) ∧ W.cell? ⟨blk, off + i * 5 + 1, none⟩ = some (.int .u32 l) ∧ W.cell? ⟨blk, off + i * 5 + 2, none⟩ = some (.bool xw) ∧ W.cell? ⟨blk, off + i * 5 + 3, none⟩ = some (.bool us) ∧ W.cell? ⟨blk, off + i * 5 + 4, none⟩ = some (.bool wp)) → (W'.cell? ⟨blk, off + i * 5, none⟩ = some (.int .u32 c) ∧ W'.cell? ⟨blk, off + i * 5 + 1, none⟩ = some (.int .u32 l) ∧ W'.cell? ⟨blk, off + i * 5 + 2, none⟩ = some (.bool xw) ∧ W'.cell? ⟨blk, off + i * 5 + 3, none⟩ = some (.bool us) ∧ W'.cell? ⟨blk, off + i * 5 + 4, none⟩ = some (.bool wp))) := fun T W W' k h1 ⟨a0, a1, a2, a3, a4⟩ => ⟨cell_kp a0 k h1, cell_kp a1 k h1, cell_kp a2 k h1, cell_kp a3 k h1, cell_kp a4 k h1⟩
          have HS0 : Hid (V1.drew.cell? ⟨blk, off + i * 5, none⟩ = some (.int .u32 c) ∧ V1.drew.cell? ⟨blk, off + i * 5 + 1, none⟩ = some (.int .u32 l) ∧ V1.drew.cell? ⟨blk, off + i * 5 + 2, none⟩ = some (.bool xw) ∧ V1.drew.cell? ⟨blk, off + i * 5 + 3, none⟩ = some (.bool us) ∧ V1.drew.cell? ⟨blk, off + i * 5 + 4, none⟩ = some (.bool wp)) := s8
          have HSD : Hid ((V1.alloc (.cells #[.int .u32 0, .int .u32 0, .int .u32 0, .bool false, .bool false] 45)).drew.cell? ⟨blk, off + i * 5, none⟩ = some (.int .u32 c) ∧ (V1.alloc (.cells #[.int .u32 0, .int .u32 0, .int .u32 0, .bool false, .bool false] 45)).drew.cell? ⟨blk, off + i * 5 + 1, none⟩ = some (.int .u32 l) ∧ (V1.alloc (.cells #[.int .u32 0, .int .u32 0, .int .u32 0, .bool false, .bool false] 45)).drew.cell? ⟨blk, off + i * 5 + 2, none⟩ = some (.bool xw) ∧ (V1.alloc (.cells #[.int .u32 0, .int .u32 0, .int .u32 0, .bool false, .bool false] 45)).drew.cell? ⟨blk, off + i * 5 + 3, none⟩ = some (.bool us) ∧ (V1.alloc (.cells #[.int .u32 0, .int .u32 0, .int .u32 0, .bool false, .bool false] 45)).drew.cell? ⟨blk, off + i * 5 + 4, none⟩ = some (.bool wp)) := HSG.out noB V1 _ ((Kp.alloc noB V1 (.cells #[.int .u32 0, .int .u32 0, .int .u32 0, .bool false, .bool false] 45)).drew) (fun f => f) s8
          have HSK : Hid (∀ W W', Kp (inRam C 16) W W' → (W.cell? ⟨blk, off + i * 5, none⟩ = some (.int .u32 c) ∧ W.cell? ⟨blk, off + i * 5 + 1, none⟩ = some (.int .u32 l) ∧ W.cell? ⟨blk, off + i * 5 + 2, none⟩ = some (.bool xw) ∧ W.cell? ⟨blk, off + i * 5 + 3, none⟩ = some (.bool us) ∧ W.cell? ⟨blk, off + i * 5 + 4, none⟩ = some (.bool wp)) → (W'.cell? ⟨blk, off + i * 5, none⟩ = some (.int .u32 c) ∧ W'.cell? ⟨blk, off + i * 5 + 1, none⟩ = some (.int .u32 l) ∧ W'.cell? ⟨blk, off + i * 5 + 2, none⟩ = some (.bool xw) ∧ W'.cell? ⟨blk, off + i * 5 + 3, none⟩ = some (.bool us) ∧ W'.cell? ⟨blk, off + i * 5 + 4, none⟩ = some (.bool wp))) := fun W W' k => HSG.out _ W W' k (fun f => by have := HOut.out _ (.inr (.inl f)); omega)
          have HSA : Hid (∀ (W : World) (O : Obj), (W.cell? ⟨blk, off + i * 5, none⟩ = some (.int .u32 c) ∧ W.cell? ⟨blk, off + i * 5 + 1, none⟩ = some (.int .u32 l) ∧ W.cell? ⟨blk, off + i * 5 + 2, none⟩ = some (.bool xw) ∧ W.cell? ⟨blk, off + i * 5 + 3, none⟩ = some (.bool us) ∧ W.cell? ⟨blk, off + i * 5 + 4, none⟩ = some (.bool wp)) → ((W.alloc O).cell? ⟨blk, off + i * 5, none⟩ = some (.int .u32 c) ∧ (W.alloc O).cell? ⟨blk, off + i * 5 + 1, none⟩ = some (.int .u32 l) ∧ (W.alloc O).cell? ⟨blk, off + i * 5 + 2, none⟩ = some (.bool xw) ∧ (W.alloc O).cell? ⟨blk, off + i * 5 + 3, none⟩ = some (.bool us) ∧ (W.alloc O).cell? ⟨blk, off + i * 5 + 4, none⟩ = some (.bool wp))) := fun W O => HSG.out noB W _ (Kp.alloc noB W O) (fun f => f)
          have HSF : Hid (∀ (W : World), (W.cell? ⟨blk, off + i * 5, none⟩ = some (.int .u32 c) ∧ W.cell? ⟨blk, off + i * 5 + 1, none⟩ = some (.int .u32 l) ∧ W.cell? ⟨blk, off + i * 5 + 2, none⟩ = some (.bool xw) ∧ W.cell? ⟨blk, off + i * 5 + 3, none⟩ = some (.bool us) ∧ W.cell? ⟨blk, off + i * 5 + 4, none⟩ = some (.bool wp)) → ((((((W.setCell ⟨V1.heap.size, 0, none⟩ (.int .u32 f)).setCell ⟨V1.heap.size, 1, none⟩ (.int .u32 p)).setCell ⟨V1.heap.size, 2, none⟩ (.int .u32 q)).setCell ⟨V1.heap.size, 3, none⟩ (.bool x)).setCell ⟨V1.heap.size, 4, none⟩ (.bool y)).cell? ⟨blk, off + i * 5, none⟩ = some (.int .u32 c) ∧ (((((W.setCell ⟨V1.heap.size, 0, none⟩ (.int .u32 f)).setCell ⟨V1.heap.size, 1, none⟩ (.int .u32 p)).setCell ⟨V1.heap.size, 2, none⟩ (.int .u32 q)).setCell ⟨V1.heap.size, 3, none⟩ (.bool x)).setCell ⟨V1.heap.size, 4, none⟩ (.bool y)).cell? ⟨blk, off + i * 5 + 1, none⟩ = some (.int .u32 l) ∧ (((((W.setCell ⟨V1.heap.size, 0, none⟩ (.int .u32 f)).setCell ⟨V1.heap.size, 1, none⟩ (.int .u32 p)).setCell ⟨V1.heap.size, 2, none⟩ (.int .u32 q)).setCell ⟨V1.heap.size, 3, none⟩ (.bool x)).setCell ⟨V1.heap.size, 4, none⟩ (.bool y)).cell? ⟨blk, off + i * 5 + 2, none⟩ = some (.bool xw) ∧ (((((W.setCell ⟨V1.heap.size, 0, none⟩ (.int .u32 f)).setCell ⟨V1.heap.size, 1, none⟩ (.int .u32 p)).setCell ⟨V1.heap.size, 2, none⟩ (.int .u32 q)).setCell ⟨V1.heap.size, 3, none⟩ (.bool x)).setCell ⟨V1.heap.size, 4, none⟩ (.bool y)).cell? ⟨blk, off + i * 5 + 3, none⟩ = some (.bool us) ∧ (((((W.setCell ⟨V1.heap.size, 0, none⟩ (.int .u32 f)).setCell ⟨V1.heap.size, 1, none⟩ (.int .u32 p)).setCell ⟨V1.heap.size, 2, none⟩ (.int .u32 q)).setCell ⟨V1.heap.size, 3, none⟩ (.bool x)).setCell ⟨V1.heap.size, 4, none⟩ (.bool y)).cell? ⟨blk, off + i * 5 + 4, none⟩ = some (.bool wp))) := fun W => HSG.out _ W _ (Kp.five_in W V1.heap.size _ _ _ _ _) (by omega)
          have ha1 : RamAt V1.drew C M := hc4.kept (fun _ _ => rfl)
          have ha2 : RamAt (V1.alloc (.cells #[.int .u32 0, .int .u32 0, .int .u32 0, .bool false, .bool false] 45)).drew C M := hc4.kp ((Kp.alloc noB V1 (.cells #[.int .u32 0, .int .u32 0, .int .u32 0, .bool false, .bool false] 45)).drew) (fun _ _ f => f)
          have hAl : ∀ j, (allY B C K Y1) j → j < V1.heap.size := fun j hj => by
            rcases hj with (f | f | f) | f
            · have := hr4.lt; rw [hM1] at this; have := f.2; omega
            · have := hc4.lt; rw [hMn] at this; have := f.2; omega
            · have := t4.lt; rcases f with e | e <;> omega
            · have := rW1.lt; omega
          have HRZ : Hid (∀ W', Kp (inRam C 16) (V1.alloc (.cells #[.int .u32 0, .int .u32 0, .int .u32 0, .bool false, .bool false] 45)).drew W' → RowK W' V1.heap.size 0 0 0 false false) := fun W' k => by
            have r : RowK (V1.alloc (.cells #[.int .u32 0, .int .u32 0, .int .u32 0, .bool false, .bool false] 45)).drew V1.heap.size 0 0 0 false false := (MapKept.heap_alloc V1 (.cells #[.int .u32 0, .int .u32 0, .int .u32 0, .bool false, .bool false] 45)).1
            exact r.kp k nNew
          have HRF : Hid (∀ W', RowK W' V1.heap.size 0 0 0 false false → (W'.cell? ⟨V1.heap.size, 0, none⟩ = some (.int .u32 0) ∧ W'.cell? ⟨V1.heap.size, 1, none⟩ = some (.int .u32 0) ∧ W'.cell? ⟨V1.heap.size, 2, none⟩ = some (.int .u32 0) ∧ W'.cell? ⟨V1.heap.size, 3, none⟩ = some (.bool false) ∧ W'.cell? ⟨V1.heap.size, 4, none⟩ = some (.bool false) ∧ W'.frozen? ⟨V1.heap.size, 0, none⟩ = false ∧ W'.frozen? ⟨V1.heap.size, 1, none⟩ = false ∧ W'.frozen? ⟨V1.heap.size, 2, none⟩ = false ∧ W'.frozen? ⟨V1.heap.size, 3, none⟩ = false ∧ W'.frozen? ⟨V1.heap.size, 4, none⟩ = false)) := fun W' r => ⟨r.c0, r.c1, r.c2, r.c3, r.c4, r.fz 0, r.fz 1, r.fz 2, r.fz 3, r.fz 4⟩
          clear s8
          go_upto_region 16 with fail
          go_region_held3 (fun W => (W.cell? ⟨blk, off + i * 5, none⟩ = some (.int .u32 c) ∧ W.cell? ⟨blk, off + i * 5 + 1, none⟩ = some (.int .u32 l) ∧ W.cell? ⟨blk, off + i * 5 + 2, none⟩ = some (.bool xw) ∧ W.cell? ⟨blk, off + i * 5 + 3, none⟩ = some (.bool us) ∧ W.cell? ⟨blk, off + i * 5 + 4, none⟩ = some (.bool wp)))
            (first | with_reducible exact HS0.out | with_reducible exact HSD.out | with_reducible exact HSK.out _ _ k4 HS0.out | with_reducible exact HSK.out _ _ k4 HSD.out | with_reducible exact HSA.out _ _ (HSK.out _ _ k4 HS0.out) | with_reducible exact HSF.out _ (HSK.out _ _ k4 HSD.out))
            (first
              | (go_at_call 19; refine (HD.out _ (by assumption)).mono ?_; rintro e w4 ⟨rfl, hc5, k4⟩; (first | ((with_reducible have rz := HRZ.out _ k4); obtain ⟨z0, z1, z2, z3, z4, y0, y1, y2, y3, y4⟩ := HRF.out _ rz) | skip)))
          · have k4' : Kp (inRam C 16) V1 w4 := ⟨k4.os, k4.tape, k4.output, k4.size, k4.block⟩
            have kA := Kp.alloc noB w4 (.cells #[.int .u32 f, .int .u32 p, .int .u32 q, .bool x, .bool y] 45)
            have rW2 : RowK (w4.alloc (.cells #[.int .u32 f, .int .u32 p, .int .u32 q, .bool x, .bool y] 45)) w4.heap.size f p q x y := (MapKept.heap_alloc w4 _).1
            have hY : V1.heap.size ≤ w4.heap.size := k4'.size
            have s8 := HSA.out w4 (.cells #[.int .u32 f, .int .u32 p, .int .u32 q, .bool x, .bool y] 45) (HSK.out _ _ k4 HS0.out)
            replace k4' : Kp (inRam C 16) V1 (w4.alloc (.cells #[.int .u32 f, .int .u32 p, .int .u32 q, .bool x, .bool y] 45)) := k4'.over kA (fun _ _ f => f.elim)
            replace hc5 : RamAt (w4.alloc (.cells #[.int .u32 f, .int .u32 p, .int .u32 q, .bool x, .bool y] 45)) C M' := hc5.kp kA (fun _ _ f => f)
            have hr5 : RamAt (w4.alloc (.cells #[.int .u32 f, .int .u32 p, .int .u32 q, .bool x, .bool y] 45)) B M' := hr4.kp k4' (fun j hj f => by rw [hM1] at hj; exact HBC.out j (.inl hj) f)
            have t5 : TlbD (w4.alloc (.cells #[.int .u32 f, .int .u32 p, .int .u32 q, .bool x, .bool y] 45)) K B 4 tn4 D4 := t4.kp k4' (fun j hj f => HCK.out j f hj)
            have nY : ¬ inRam C 16 Y1 := fun f => hYn Y1 (.inr (.inl f)) rfl
            replace rW1 := rW1.kp k4' nY
            have kk5 : Kp noB w (w4.alloc (.cells #[.int .u32 f, .int .u32 p, .int .u32 q, .bool x, .bool y] 45)) := kk.over k4' (fun t ht f => by have := HOut.out t (.inr (.inl f)); omega)
            clear kk hc4 hr4 t4 ha1 ha2 nY hYn
            clear HS0 HSD HSK HSA HSF HRZ HRF k4 kA HSG
            obtain ⟨Y2, hYe⟩ : ∃ Y, Y = w4.heap.size := ⟨_, rfl⟩
            obtain ⟨V2, hgen⟩ : ∃ W, W = (w4.alloc (.cells #[.int .u32 f, .int .u32 p, .int .u32 q, .bool x, .bool y] 45)) := ⟨_, rfl⟩
            rw [← hgen] at hc5 hr5 t5 rW1 kk5 s8 rW2 ⊢
            rw [← hYe] at rW2 hY ⊢
            have hYn : ∀ j, (allY B C K Y1) j → ¬ j = Y2 := fun j hj e => by have := hAl j hj; omega
            clear hYe hgen nNew hVl hY hbV k4'
            have d0 := rW1.c0; have d1 := rW1.c1; have d2 := rW1.c2; have d3 := rW1.c3; have d4 := rW1.c4
            have g0 := rW2.c0; have g1 := rW2.c1; have g2 := rW2.c2; have g3 := rW2.c3; have g4 := rW2.c4
            clear HC HD hYn
            go_wp2_with fail
            go_roundg (L - j)
            case measure => have := HJ.out; have := HKm.out; omega
            case rel => exact ⟨j, M', D4, tn4, by rw [HJ.out]; rfl, by have := HJ.out; omega, Nat.le_refl _, ⟨hM1, hM2⟩, hr5, hc5, t5, by have := HJ.out; have := HTn.out; omega, kk5⟩
          · have k4' : Kp (inRam C 16) (V1.alloc (.cells #[.int .u32 0, .int .u32 0, .int .u32 0, .bool false, .bool false] 45)) w4 := ⟨k4.os, k4.tape, k4.output, k4.size, k4.block⟩
            have kA : Kp (inRam C 16) V1 (V1.alloc (.cells #[.int .u32 0, .int .u32 0, .int .u32 0, .bool false, .bool false] 45)) := Kp.alloc _ V1 _
            replace k4' := kA.trans k4'
            have rW2 : RowK (((((w4.setCell ⟨V1.heap.size, 0, none⟩ (.int .u32 f)).setCell ⟨V1.heap.size, 1, none⟩ (.int .u32 p)).setCell ⟨V1.heap.size, 2, none⟩ (.int .u32 q)).setCell ⟨V1.heap.size, 3, none⟩ (.bool x)).setCell ⟨V1.heap.size, 4, none⟩ (.bool y)) V1.heap.size f p q x y := ((((rz.s0 f).s1 p).s2 q).s3 x).s4 y
            have kF := Kp.five_in w4 V1.heap.size (.int .u32 f) (.int .u32 p) (.int .u32 q) (.bool x) (.bool y)
            have s8 := HSF.out w4 (HSK.out _ _ k4 HSD.out)
            have nI : ∀ j, (allY B C K Y1) j → ¬ j = V1.heap.size := fun j hj e => by have := hAl j hj; omega
            replace hc5 : RamAt (((((w4.setCell ⟨V1.heap.size, 0, none⟩ (.int .u32 f)).setCell ⟨V1.heap.size, 1, none⟩ (.int .u32 p)).setCell ⟨V1.heap.size, 2, none⟩ (.int .u32 q)).setCell ⟨V1.heap.size, 3, none⟩ (.bool x)).setCell ⟨V1.heap.size, 4, none⟩ (.bool y)) C M' := hc5.kp kF (fun j hj => nI j (.inl (.inr (.inl (by rw [hM1] at hj; exact hj)))))
            have hr5 : RamAt (((((w4.setCell ⟨V1.heap.size, 0, none⟩ (.int .u32 f)).setCell ⟨V1.heap.size, 1, none⟩ (.int .u32 p)).setCell ⟨V1.heap.size, 2, none⟩ (.int .u32 q)).setCell ⟨V1.heap.size, 3, none⟩ (.bool x)).setCell ⟨V1.heap.size, 4, none⟩ (.bool y)) B M' := (hr4.kp k4' (fun j hj f => by rw [hM1] at hj; exact HBC.out j (.inl hj) f)).kp kF (fun j hj => nI j (.inl (.inl (by rw [hM1] at hj; exact hj))))
            have t5 : TlbD (((((w4.setCell ⟨V1.heap.size, 0, none⟩ (.int .u32 f)).setCell ⟨V1.heap.size, 1, none⟩ (.int .u32 p)).setCell ⟨V1.heap.size, 2, none⟩ (.int .u32 q)).setCell ⟨V1.heap.size, 3, none⟩ (.bool x)).setCell ⟨V1.heap.size, 4, none⟩ (.bool y)) K B 4 tn4 D4 := (t4.kp k4' (fun j hj f => HCK.out j f hj)).kp kF (fun j hj => nI j (.inl (.inr (.inr hj))))
            have nY : ¬ inRam C 16 Y1 := fun f => hYn Y1 (.inr (.inl f)) rfl
            replace rW1 := (rW1.kp k4' nY).kp kF (nI Y1 (.inr rfl))
            have kk5 : Kp noB w (((((w4.setCell ⟨V1.heap.size, 0, none⟩ (.int .u32 f)).setCell ⟨V1.heap.size, 1, none⟩ (.int .u32 p)).setCell ⟨V1.heap.size, 2, none⟩ (.int .u32 q)).setCell ⟨V1.heap.size, 3, none⟩ (.bool x)).setCell ⟨V1.heap.size, 4, none⟩ (.bool y)) := (kk.over k4' (fun t ht f => by have := HOut.out t (.inr (.inl f)); omega)).five kk.size _ _ _ _ _
            clear kk hc4 hr4 t4 ha1 ha2 nI nY hYn
            clear HS0 HSD HSK HSA HSF HRZ HRF k4 kA kF HSG rz z0 z1 z2 z3 z4 y0 y1 y2 y3 y4
            obtain ⟨Y2, hYe⟩ : ∃ Y, Y = V1.heap.size := ⟨_, rfl⟩
            obtain ⟨V2, hgen⟩ : ∃ W, W = (((((w4.setCell ⟨V1.heap.size, 0, none⟩ (.int .u32 f)).setCell ⟨V1.heap.size, 1, none⟩ (.int .u32 p)).setCell ⟨V1.heap.size, 2, none⟩ (.int .u32 q)).setCell ⟨V1.heap.size, 3, none⟩ (.bool x)).setCell ⟨V1.heap.size, 4, none⟩ (.bool y)) := ⟨_, rfl⟩
            rw [← hgen] at hc5 hr5 t5 rW1 kk5 s8 rW2 ⊢
            rw [← hYe] at rW2 ⊢
            have hYn : ∀ j, (allY B C K Y1) j → ¬ j = Y2 := fun j hj e => by have := hAl j hj; omega
            clear hYe hgen nNew hVl hbV k4'
            have d0 := rW1.c0; have d1 := rW1.c1; have d2 := rW1.c2; have d3 := rW1.c3; have d4 := rW1.c4
            have g0 := rW2.c0; have g1 := rW2.c1; have g2 := rW2.c2; have g3 := rW2.c3; have g4 := rW2.c4
            clear HC HD hYn
            go_wp2_with fail
            go_roundg (L - j)
            case measure => have := HJ.out; have := HKm.out; omega
            case rel => exact ⟨j, M', D4, tn4, by rw [HJ.out]; rfl, by have := HJ.out; omega, Nat.le_refl _, ⟨hM1, hM2⟩, hr5, hc5, t5, by have := HJ.out; have := HTn.out; omega, kk5⟩
      · have hdr' : decide ((i : Int) < (L2 : Int)) = false := decide_eq_false (by omega)
        obtain ⟨V0, hV0⟩ : ∃ V, V = wr := ⟨_, rfl⟩
        rw [← hV0] at hra hrc tl kk ⊢
        clear hV0
        obtain ⟨blk, off, c, l, xw, us, wp, rfl, hblk, s8, ⟨b0, b1, b2, b3⟩⟩ := (HS.out i hi').kp kk
        have hblk0 : blk < w.heap.size := by obtain ⟨b', o', _, _, _, _, _, e1, h2, _⟩ := HS.out i hi'; cases e1; exact h2
        obtain ⟨f, p, q, x, y, hwk⟩ := fWalk_is M c l xw us wp
        have cb := fCode_bd M c l xw us wp
        have hsm := fMem_same M c l xw us wp
        have HC : Hid (∀ W, TlbD W K B 4 tn D → RamAt W B M → Calls Try.prog 12 #[.pointer (some ⟨K + 1, 0, none⟩), .int .u32 c, .int .u32 l, .agg #[.bool xw, .bool us, .bool wp]] W (fun e w' => e = .returned (.tuple #[.agg #[.int .u32 f, .int .u32 p, .int .u32 q, .bool x, .bool y], .int .i64 (fCode M c l xw us wp), .int .i64 0]) ∧ RamAt w' B (fMem M c l xw us wp) ∧ (∃ D' tn', TlbD w' K B 4 tn' D' ∧ tn' ≤ tn + 1) ∧ Kp (fun j => inRam B 16 j ∨ inTlb K j) W w')) := fun W hW hW' => by
          have := tlFind_ok W K B 4 tn D M hW hW' hMc c l xw us wp b0 b1 b2 b3 htn2 (by rw [hMn]; exact HBK.out)
          unfold TfPost at this
          rw [hwk, hMn] at this
          exact this
        have HD : Hid (∀ W, RamAt W C M → Calls Try.prog 19 #[.pointer (some ⟨C + 3, 0, none⟩), .int .u32 c, .int .u32 l, .agg #[.bool xw, .bool us, .bool wp]] W (fun e w' => e = .returned (.tuple #[.agg #[.int .u32 f, .int .u32 p, .int .u32 q, .bool x, .bool y], .int .i64 (fCode M c l xw us wp), .int .i64 0]) ∧ RamAt w' C (fMem M c l xw us wp) ∧ Kp (inRam C 16) W w')) := fun W hW => by
          have := find_ok W C M hW c l xw us wp b0 b1 b2 b3
          unfold FdPost at this
          rw [hwk, hMn] at this
          exact this
        rw [hMn] at hsm
        obtain ⟨M', hM'⟩ : ∃ M', M' = fMem M c l xw us wp := ⟨_, rfl⟩
        obtain ⟨cd, hcd⟩ : ∃ cd, cd = fCode M c l xw us wp := ⟨_, rfl⟩
        rw [← hM'] at HC HD hsm
        rw [← hcd] at HC HD cb
        have hM1 : M'.n = 16 := hsm.1
        have hM2 : M'.closed = false := hsm.2.2.trans hMc
        obtain ⟨cb0, cb1⟩ := cb
        clear hwk hsm hM' hcd hMc
        have hbV : blk < V0.heap.size := Nat.lt_of_lt_of_le hblk0 kk.size
        have hVl : ∀ j, (fun j => inRam B 16 j ∨ inTlb K j) j → j < V0.heap.size := fun j hj => by
          rcases hj with f | f
          · have := hra.lt; rw [hMn] at this; have := f.2; omega
          · have := tl.lt; rcases f with e | e <;> omega
        have nNew : ¬ (fun j => inRam B 16 j ∨ inTlb K j) V0.heap.size := fun f => by have := hVl _ f; omega
        have HSG : Hid (∀ (T : Nat → Prop) (W W' : World), Kp T W W' → ¬ T blk → (W.cell? ⟨blk, off + i * 5, none⟩ = some (.int .u32 c) ∧ W.cell? ⟨blk, off + i * 5 + 1, none⟩ = some (.int .u32 l) ∧ W.cell? ⟨blk, off + i * 5 + 2, none⟩ = some (.bool xw) ∧ W.cell? ⟨blk, off + i * 5 + 3, none⟩ = some (.bool us) ∧ W.cell? ⟨blk, off + i * 5 + 4, none⟩ = some (.bool wp)) → (W'.cell? ⟨blk, off + i * 5, none⟩ = some (.int .u32 c) ∧ W'.cell? ⟨blk, off + i * 5 + 1, none⟩ = some (.int .u32 l) ∧ W'.cell? ⟨blk, off + i * 5 + 2, none⟩ = some (.bool xw) ∧ W'.cell? ⟨blk, off + i * 5 + 3, none⟩ = some (.bool us) ∧ W'.cell? ⟨blk, off + i * 5 + 4, none⟩ = some (.bool wp))) := fun T W W' k h1 ⟨a0, a1, a2, a3, a4⟩ => ⟨cell_kp a0 k h1, cell_kp a1 k h1, cell_kp a2 k h1, cell_kp a3 k h1, cell_kp a4 k h1⟩
        have HS0 : Hid (V0.drew.cell? ⟨blk, off + i * 5, none⟩ = some (.int .u32 c) ∧ V0.drew.cell? ⟨blk, off + i * 5 + 1, none⟩ = some (.int .u32 l) ∧ V0.drew.cell? ⟨blk, off + i * 5 + 2, none⟩ = some (.bool xw) ∧ V0.drew.cell? ⟨blk, off + i * 5 + 3, none⟩ = some (.bool us) ∧ V0.drew.cell? ⟨blk, off + i * 5 + 4, none⟩ = some (.bool wp)) := s8
        have HSD : Hid ((V0.alloc (.cells #[.int .u32 0, .int .u32 0, .int .u32 0, .bool false, .bool false] 45)).drew.cell? ⟨blk, off + i * 5, none⟩ = some (.int .u32 c) ∧ (V0.alloc (.cells #[.int .u32 0, .int .u32 0, .int .u32 0, .bool false, .bool false] 45)).drew.cell? ⟨blk, off + i * 5 + 1, none⟩ = some (.int .u32 l) ∧ (V0.alloc (.cells #[.int .u32 0, .int .u32 0, .int .u32 0, .bool false, .bool false] 45)).drew.cell? ⟨blk, off + i * 5 + 2, none⟩ = some (.bool xw) ∧ (V0.alloc (.cells #[.int .u32 0, .int .u32 0, .int .u32 0, .bool false, .bool false] 45)).drew.cell? ⟨blk, off + i * 5 + 3, none⟩ = some (.bool us) ∧ (V0.alloc (.cells #[.int .u32 0, .int .u32 0, .int .u32 0, .bool false, .bool false] 45)).drew.cell? ⟨blk, off + i * 5 + 4, none⟩ = some (.bool wp)) := HSG.out noB V0 _ ((Kp.alloc noB V0 (.cells #[.int .u32 0, .int .u32 0, .int .u32 0, .bool false, .bool false] 45)).drew) (fun f => f) s8
        have HSK : Hid (∀ W W', Kp (fun j => inRam B 16 j ∨ inTlb K j) W W' → (W.cell? ⟨blk, off + i * 5, none⟩ = some (.int .u32 c) ∧ W.cell? ⟨blk, off + i * 5 + 1, none⟩ = some (.int .u32 l) ∧ W.cell? ⟨blk, off + i * 5 + 2, none⟩ = some (.bool xw) ∧ W.cell? ⟨blk, off + i * 5 + 3, none⟩ = some (.bool us) ∧ W.cell? ⟨blk, off + i * 5 + 4, none⟩ = some (.bool wp)) → (W'.cell? ⟨blk, off + i * 5, none⟩ = some (.int .u32 c) ∧ W'.cell? ⟨blk, off + i * 5 + 1, none⟩ = some (.int .u32 l) ∧ W'.cell? ⟨blk, off + i * 5 + 2, none⟩ = some (.bool xw) ∧ W'.cell? ⟨blk, off + i * 5 + 3, none⟩ = some (.bool us) ∧ W'.cell? ⟨blk, off + i * 5 + 4, none⟩ = some (.bool wp))) := fun W W' k => HSG.out _ W W' k (fun f => by have := HOut.out _ (by rcases f with f | f; exact .inl f; exact .inr (.inr f)); omega)
        have HSA : Hid (∀ (W : World) (O : Obj), (W.cell? ⟨blk, off + i * 5, none⟩ = some (.int .u32 c) ∧ W.cell? ⟨blk, off + i * 5 + 1, none⟩ = some (.int .u32 l) ∧ W.cell? ⟨blk, off + i * 5 + 2, none⟩ = some (.bool xw) ∧ W.cell? ⟨blk, off + i * 5 + 3, none⟩ = some (.bool us) ∧ W.cell? ⟨blk, off + i * 5 + 4, none⟩ = some (.bool wp)) → ((W.alloc O).cell? ⟨blk, off + i * 5, none⟩ = some (.int .u32 c) ∧ (W.alloc O).cell? ⟨blk, off + i * 5 + 1, none⟩ = some (.int .u32 l) ∧ (W.alloc O).cell? ⟨blk, off + i * 5 + 2, none⟩ = some (.bool xw) ∧ (W.alloc O).cell? ⟨blk, off + i * 5 + 3, none⟩ = some (.bool us) ∧ (W.alloc O).cell? ⟨blk, off + i * 5 + 4, none⟩ = some (.bool wp))) := fun W O => HSG.out noB W _ (Kp.alloc noB W O) (fun f => f)
        have HSF : Hid (∀ (W : World), (W.cell? ⟨blk, off + i * 5, none⟩ = some (.int .u32 c) ∧ W.cell? ⟨blk, off + i * 5 + 1, none⟩ = some (.int .u32 l) ∧ W.cell? ⟨blk, off + i * 5 + 2, none⟩ = some (.bool xw) ∧ W.cell? ⟨blk, off + i * 5 + 3, none⟩ = some (.bool us) ∧ W.cell? ⟨blk, off + i * 5 + 4, none⟩ = some (.bool wp)) → ((((((W.setCell ⟨V0.heap.size, 0, none⟩ (.int .u32 f)).setCell ⟨V0.heap.size, 1, none⟩ (.int .u32 p)).setCell ⟨V0.heap.size, 2, none⟩ (.int .u32 q)).setCell ⟨V0.heap.size, 3, none⟩ (.bool x)).setCell ⟨V0.heap.size, 4, none⟩ (.bool y)).cell? ⟨blk, off + i * 5, none⟩ = some (.int .u32 c) ∧ (((((W.setCell ⟨V0.heap.size, 0, none⟩ (.int .u32 f)).setCell ⟨V0.heap.size, 1, none⟩ (.int .u32 p)).setCell ⟨V0.heap.size, 2, none⟩ (.int .u32 q)).setCell ⟨V0.heap.size, 3, none⟩ (.bool x)).setCell ⟨V0.heap.size, 4, none⟩ (.bool y)).cell? ⟨blk, off + i * 5 + 1, none⟩ = some (.int .u32 l) ∧ (((((W.setCell ⟨V0.heap.size, 0, none⟩ (.int .u32 f)).setCell ⟨V0.heap.size, 1, none⟩ (.int .u32 p)).setCell ⟨V0.heap.size, 2, none⟩ (.int .u32 q)).setCell ⟨V0.heap.size, 3, none⟩ (.bool x)).setCell ⟨V0.heap.size, 4, none⟩ (.bool y)).cell? ⟨blk, off + i * 5 + 2, none⟩ = some (.bool xw) ∧ (((((W.setCell ⟨V0.heap.size, 0, none⟩ (.int .u32 f)).setCell ⟨V0.heap.size, 1, none⟩ (.int .u32 p)).setCell ⟨V0.heap.size, 2, none⟩ (.int .u32 q)).setCell ⟨V0.heap.size, 3, none⟩ (.bool x)).setCell ⟨V0.heap.size, 4, none⟩ (.bool y)).cell? ⟨blk, off + i * 5 + 3, none⟩ = some (.bool us) ∧ (((((W.setCell ⟨V0.heap.size, 0, none⟩ (.int .u32 f)).setCell ⟨V0.heap.size, 1, none⟩ (.int .u32 p)).setCell ⟨V0.heap.size, 2, none⟩ (.int .u32 q)).setCell ⟨V0.heap.size, 3, none⟩ (.bool x)).setCell ⟨V0.heap.size, 4, none⟩ (.bool y)).cell? ⟨blk, off + i * 5 + 4, none⟩ = some (.bool wp))) := fun W => HSG.out _ W _ (Kp.five_in W V0.heap.size _ _ _ _ _) (by omega)
        have ha1 : RamAt V0.drew B M := hra.kept (fun _ _ => rfl)
        have ha2 : RamAt (V0.alloc (.cells #[.int .u32 0, .int .u32 0, .int .u32 0, .bool false, .bool false] 45)).drew B M := hra.kp ((Kp.alloc noB V0 (.cells #[.int .u32 0, .int .u32 0, .int .u32 0, .bool false, .bool false] 45)).drew) (fun _ _ f => f)
        have hb1 : TlbD V0.drew K B 4 tn D := tl.kept (fun _ _ => rfl)
        have hb2 : TlbD (V0.alloc (.cells #[.int .u32 0, .int .u32 0, .int .u32 0, .bool false, .bool false] 45)).drew K B 4 tn D := tl.kp ((Kp.alloc noB V0 (.cells #[.int .u32 0, .int .u32 0, .int .u32 0, .bool false, .bool false] 45)).drew) (fun _ _ f => f)
        have hAl : ∀ j, (allT B C K) j → j < V0.heap.size := fun j hj => by
          rcases hj with f | f | f
          · have := hra.lt; rw [hMn] at this; have := f.2; omega
          · have := hrc.lt; rw [hMn] at this; have := f.2; omega
          · have := tl.lt; rcases f with e | e <;> omega
        have HRZ : Hid (∀ W', Kp (fun j => inRam B 16 j ∨ inTlb K j) (V0.alloc (.cells #[.int .u32 0, .int .u32 0, .int .u32 0, .bool false, .bool false] 45)).drew W' → RowK W' V0.heap.size 0 0 0 false false) := fun W' k => by
          have r : RowK (V0.alloc (.cells #[.int .u32 0, .int .u32 0, .int .u32 0, .bool false, .bool false] 45)).drew V0.heap.size 0 0 0 false false := (MapKept.heap_alloc V0 (.cells #[.int .u32 0, .int .u32 0, .int .u32 0, .bool false, .bool false] 45)).1
          exact r.kp k nNew
        have HRF : Hid (∀ W', RowK W' V0.heap.size 0 0 0 false false → (W'.cell? ⟨V0.heap.size, 0, none⟩ = some (.int .u32 0) ∧ W'.cell? ⟨V0.heap.size, 1, none⟩ = some (.int .u32 0) ∧ W'.cell? ⟨V0.heap.size, 2, none⟩ = some (.int .u32 0) ∧ W'.cell? ⟨V0.heap.size, 3, none⟩ = some (.bool false) ∧ W'.cell? ⟨V0.heap.size, 4, none⟩ = some (.bool false) ∧ W'.frozen? ⟨V0.heap.size, 0, none⟩ = false ∧ W'.frozen? ⟨V0.heap.size, 1, none⟩ = false ∧ W'.frozen? ⟨V0.heap.size, 2, none⟩ = false ∧ W'.frozen? ⟨V0.heap.size, 3, none⟩ = false ∧ W'.frozen? ⟨V0.heap.size, 4, none⟩ = false)) := fun W' r => ⟨r.c0, r.c1, r.c2, r.c3, r.c4, r.fz 0, r.fz 1, r.fz 2, r.fz 3, r.fz 4⟩
        clear s8
        go_upto_region 15 with fail
        go_region_held3 (fun W => (W.cell? ⟨blk, off + i * 5, none⟩ = some (.int .u32 c) ∧ W.cell? ⟨blk, off + i * 5 + 1, none⟩ = some (.int .u32 l) ∧ W.cell? ⟨blk, off + i * 5 + 2, none⟩ = some (.bool xw) ∧ W.cell? ⟨blk, off + i * 5 + 3, none⟩ = some (.bool us) ∧ W.cell? ⟨blk, off + i * 5 + 4, none⟩ = some (.bool wp)))
          (first | with_reducible exact HS0.out | with_reducible exact HSD.out | with_reducible exact HSK.out _ _ k4 HS0.out | with_reducible exact HSK.out _ _ k4 HSD.out | with_reducible exact HSA.out _ _ (HSK.out _ _ k4 HS0.out) | with_reducible exact HSF.out _ (HSK.out _ _ k4 HSD.out))
          (first
            | (go_at_call 12; refine (HC.out _ (by assumption) (by assumption)).mono ?_; rintro e w4 ⟨rfl, hr4, ⟨D4, tn4, t4, ht4⟩, k4⟩; (first | ((with_reducible have rz := HRZ.out _ k4); obtain ⟨z0, z1, z2, z3, z4, y0, y1, y2, y3, y4⟩ := HRF.out _ rz) | skip)))
        · have k4' : Kp (fun j => inRam B 16 j ∨ inTlb K j) V0 w4 := ⟨k4.os, k4.tape, k4.output, k4.size, k4.block⟩
          have kA := Kp.alloc noB w4 (.cells #[.int .u32 f, .int .u32 p, .int .u32 q, .bool x, .bool y] 45)
          have rW1 : RowK (w4.alloc (.cells #[.int .u32 f, .int .u32 p, .int .u32 q, .bool x, .bool y] 45)) w4.heap.size f p q x y := (MapKept.heap_alloc w4 _).1
          have hY : V0.heap.size ≤ w4.heap.size := k4'.size
          have s8 := HSA.out w4 (.cells #[.int .u32 f, .int .u32 p, .int .u32 q, .bool x, .bool y] 45) (HSK.out _ _ k4 HS0.out)
          replace k4' : Kp (fun j => inRam B 16 j ∨ inTlb K j) V0 (w4.alloc (.cells #[.int .u32 f, .int .u32 p, .int .u32 q, .bool x, .bool y] 45)) := k4'.over kA (fun _ _ f => f.elim)
          replace hr4 : RamAt (w4.alloc (.cells #[.int .u32 f, .int .u32 p, .int .u32 q, .bool x, .bool y] 45)) B M' := hr4.kp kA (fun _ _ f => f)
          replace t4 : TlbD (w4.alloc (.cells #[.int .u32 f, .int .u32 p, .int .u32 q, .bool x, .bool y] 45)) K B 4 tn4 D4 := t4.kp kA (fun _ _ f => f)
          have hc4 : RamAt (w4.alloc (.cells #[.int .u32 f, .int .u32 p, .int .u32 q, .bool x, .bool y] 45)) C M := hrc.kp k4' (fun j hj f => by rw [hMn] at hj; rcases f with f | f; exact HBC.out j (.inl f) hj; exact HCK.out j hj f)
          have kk4 : Kp noB w (w4.alloc (.cells #[.int .u32 f, .int .u32 p, .int .u32 q, .bool x, .bool y] 45)) := kk.over k4' (fun t ht f => by have := HOut.out t (by rcases f with f | f; exact .inl f; exact .inr (.inr f)); omega)
          clear kk hrc hra tl ha1 ha2 hb1 hb2
          clear HS0 HSD HSK HSA HSF HRZ HRF k4 kA HSG
          obtain ⟨Y1, hYe⟩ : ∃ Y, Y = w4.heap.size := ⟨_, rfl⟩
          obtain ⟨V1, hgen⟩ : ∃ W, W = (w4.alloc (.cells #[.int .u32 f, .int .u32 p, .int .u32 q, .bool x, .bool y] 45)) := ⟨_, rfl⟩
          rw [← hgen] at hr4 t4 hc4 kk4 s8 rW1 ⊢
          rw [← hYe] at rW1 hY ⊢
          have hYn : ∀ j, (allT B C K) j → ¬ j = Y1 := fun j hj e => by have := hAl j hj; omega
          clear hYe hgen nNew hVl hY hbV k4'
          rename Kp noB w V1 => kk
          have hbV : blk < V1.heap.size := Nat.lt_of_lt_of_le hblk0 kk.size
          have hVl : ∀ j, (inRam C 16) j → j < V1.heap.size := fun j hj => by
            have := hc4.lt; rw [hMn] at this; have := hj.2; omega
          have nNew : ¬ (inRam C 16) V1.heap.size := fun f => by have := hVl _ f; omega
          have HSG : Hid (∀ (T : Nat → Prop) (W W' : World), Kp T W W' → ¬ T blk → (W.cell? ⟨blk, off + i * 5, none⟩ = some (.int .u32 c) ∧ W.cell? ⟨blk, off + i * 5 + 1, none⟩ = some (.int .u32 l) ∧ W.cell? ⟨blk, off + i * 5 + 2, none⟩ = some (.bool xw) ∧ W.cell? ⟨blk, off + i * 5 + 3, none⟩ = some (.bool us) ∧ W.cell? ⟨blk, off + i * 5 + 4, none⟩ = some (.bool wp)) → (W'.cell? ⟨blk, off + i * 5, none⟩ = some (.int .u32 c) ∧ W'.cell? ⟨blk, off + i * 5 + 1, none⟩ = some (.int .u32 l) ∧ W'.cell? ⟨blk, off + i * 5 + 2, none⟩ = some (.bool xw) ∧ W'.cell? ⟨blk, off + i * 5 + 3, none⟩ = some (.bool us) ∧ W'.cell? ⟨blk, off + i * 5 + 4, none⟩ = some (.bool wp))) := fun T W W' k h1 ⟨a0, a1, a2, a3, a4⟩ => ⟨cell_kp a0 k h1, cell_kp a1 k h1, cell_kp a2 k h1, cell_kp a3 k h1, cell_kp a4 k h1⟩
          have HS0 : Hid (V1.drew.cell? ⟨blk, off + i * 5, none⟩ = some (.int .u32 c) ∧ V1.drew.cell? ⟨blk, off + i * 5 + 1, none⟩ = some (.int .u32 l) ∧ V1.drew.cell? ⟨blk, off + i * 5 + 2, none⟩ = some (.bool xw) ∧ V1.drew.cell? ⟨blk, off + i * 5 + 3, none⟩ = some (.bool us) ∧ V1.drew.cell? ⟨blk, off + i * 5 + 4, none⟩ = some (.bool wp)) := s8
          have HSD : Hid ((V1.alloc (.cells #[.int .u32 0, .int .u32 0, .int .u32 0, .bool false, .bool false] 45)).drew.cell? ⟨blk, off + i * 5, none⟩ = some (.int .u32 c) ∧ (V1.alloc (.cells #[.int .u32 0, .int .u32 0, .int .u32 0, .bool false, .bool false] 45)).drew.cell? ⟨blk, off + i * 5 + 1, none⟩ = some (.int .u32 l) ∧ (V1.alloc (.cells #[.int .u32 0, .int .u32 0, .int .u32 0, .bool false, .bool false] 45)).drew.cell? ⟨blk, off + i * 5 + 2, none⟩ = some (.bool xw) ∧ (V1.alloc (.cells #[.int .u32 0, .int .u32 0, .int .u32 0, .bool false, .bool false] 45)).drew.cell? ⟨blk, off + i * 5 + 3, none⟩ = some (.bool us) ∧ (V1.alloc (.cells #[.int .u32 0, .int .u32 0, .int .u32 0, .bool false, .bool false] 45)).drew.cell? ⟨blk, off + i * 5 + 4, none⟩ = some (.bool wp)) := HSG.out noB V1 _ ((Kp.alloc noB V1 (.cells #[.int .u32 0, .int .u32 0, .int .u32 0, .bool false, .bool false] 45)).drew) (fun f => f) s8
          have HSK : Hid (∀ W W', Kp (inRam C 16) W W' → (W.cell? ⟨blk, off + i * 5, none⟩ = some (.int .u32 c) ∧ W.cell? ⟨blk, off + i * 5 + 1, none⟩ = some (.int .u32 l) ∧ W.cell? ⟨blk, off + i * 5 + 2, none⟩ = some (.bool xw) ∧ W.cell? ⟨blk, off + i * 5 + 3, none⟩ = some (.bool us) ∧ W.cell? ⟨blk, off + i * 5 + 4, none⟩ = some (.bool wp)) → (W'.cell? ⟨blk, off + i * 5, none⟩ = some (.int .u32 c) ∧ W'.cell? ⟨blk, off + i * 5 + 1, none⟩ = some (.int .u32 l) ∧ W'.cell? ⟨blk, off + i * 5 + 2, none⟩ = some (.bool xw) ∧ W'.cell? ⟨blk, off + i * 5 + 3, none⟩ = some (.bool us) ∧ W'.cell? ⟨blk, off + i * 5 + 4, none⟩ = some (.bool wp))) := fun W W' k => HSG.out _ W W' k (fun f => by have := HOut.out _ (.inr (.inl f)); omega)
          have HSA : Hid (∀ (W : World) (O : Obj), (W.cell? ⟨blk, off + i * 5, none⟩ = some (.int .u32 c) ∧ W.cell? ⟨blk, off + i * 5 + 1, none⟩ = some (.int .u32 l) ∧ W.cell? ⟨blk, off + i * 5 + 2, none⟩ = some (.bool xw) ∧ W.cell? ⟨blk, off + i * 5 + 3, none⟩ = some (.bool us) ∧ W.cell? ⟨blk, off + i * 5 + 4, none⟩ = some (.bool wp)) → ((W.alloc O).cell? ⟨blk, off + i * 5, none⟩ = some (.int .u32 c) ∧ (W.alloc O).cell? ⟨blk, off + i * 5 + 1, none⟩ = some (.int .u32 l) ∧ (W.alloc O).cell? ⟨blk, off + i * 5 + 2, none⟩ = some (.bool xw) ∧ (W.alloc O).cell? ⟨blk, off + i * 5 + 3, none⟩ = some (.bool us) ∧ (W.alloc O).cell? ⟨blk, off + i * 5 + 4, none⟩ = some (.bool wp))) := fun W O => HSG.out noB W _ (Kp.alloc noB W O) (fun f => f)
          have HSF : Hid (∀ (W : World), (W.cell? ⟨blk, off + i * 5, none⟩ = some (.int .u32 c) ∧ W.cell? ⟨blk, off + i * 5 + 1, none⟩ = some (.int .u32 l) ∧ W.cell? ⟨blk, off + i * 5 + 2, none⟩ = some (.bool xw) ∧ W.cell? ⟨blk, off + i * 5 + 3, none⟩ = some (.bool us) ∧ W.cell? ⟨blk, off + i * 5 + 4, none⟩ = some (.bool wp)) → ((((((W.setCell ⟨V1.heap.size, 0, none⟩ (.int .u32 f)).setCell ⟨V1.heap.size, 1, none⟩ (.int .u32 p)).setCell ⟨V1.heap.size, 2, none⟩ (.int .u32 q)).setCell ⟨V1.heap.size, 3, none⟩ (.bool x)).setCell ⟨V1.heap.size, 4, none⟩ (.bool y)).cell? ⟨blk, off + i * 5, none⟩ = some (.int .u32 c) ∧ (((((W.setCell ⟨V1.heap.size, 0, none⟩ (.int .u32 f)).setCell ⟨V1.heap.size, 1, none⟩ (.int .u32 p)).setCell ⟨V1.heap.size, 2, none⟩ (.int .u32 q)).setCell ⟨V1.heap.size, 3, none⟩ (.bool x)).setCell ⟨V1.heap.size, 4, none⟩ (.bool y)).cell? ⟨blk, off + i * 5 + 1, none⟩ = some (.int .u32 l) ∧ (((((W.setCell ⟨V1.heap.size, 0, none⟩ (.int .u32 f)).setCell ⟨V1.heap.size, 1, none⟩ (.int .u32 p)).setCell ⟨V1.heap.size, 2, none⟩ (.int .u32 q)).setCell ⟨V1.heap.size, 3, none⟩ (.bool x)).setCell ⟨V1.heap.size, 4, none⟩ (.bool y)).cell? ⟨blk, off + i * 5 + 2, none⟩ = some (.bool xw) ∧ (((((W.setCell ⟨V1.heap.size, 0, none⟩ (.int .u32 f)).setCell ⟨V1.heap.size, 1, none⟩ (.int .u32 p)).setCell ⟨V1.heap.size, 2, none⟩ (.int .u32 q)).setCell ⟨V1.heap.size, 3, none⟩ (.bool x)).setCell ⟨V1.heap.size, 4, none⟩ (.bool y)).cell? ⟨blk, off + i * 5 + 3, none⟩ = some (.bool us) ∧ (((((W.setCell ⟨V1.heap.size, 0, none⟩ (.int .u32 f)).setCell ⟨V1.heap.size, 1, none⟩ (.int .u32 p)).setCell ⟨V1.heap.size, 2, none⟩ (.int .u32 q)).setCell ⟨V1.heap.size, 3, none⟩ (.bool x)).setCell ⟨V1.heap.size, 4, none⟩ (.bool y)).cell? ⟨blk, off + i * 5 + 4, none⟩ = some (.bool wp))) := fun W => HSG.out _ W _ (Kp.five_in W V1.heap.size _ _ _ _ _) (by omega)
          have ha1 : RamAt V1.drew C M := hc4.kept (fun _ _ => rfl)
          have ha2 : RamAt (V1.alloc (.cells #[.int .u32 0, .int .u32 0, .int .u32 0, .bool false, .bool false] 45)).drew C M := hc4.kp ((Kp.alloc noB V1 (.cells #[.int .u32 0, .int .u32 0, .int .u32 0, .bool false, .bool false] 45)).drew) (fun _ _ f => f)
          have hAl : ∀ j, (allY B C K Y1) j → j < V1.heap.size := fun j hj => by
            rcases hj with (f | f | f) | f
            · have := hr4.lt; rw [hM1] at this; have := f.2; omega
            · have := hc4.lt; rw [hMn] at this; have := f.2; omega
            · have := t4.lt; rcases f with e | e <;> omega
            · have := rW1.lt; omega
          have HRZ : Hid (∀ W', Kp (inRam C 16) (V1.alloc (.cells #[.int .u32 0, .int .u32 0, .int .u32 0, .bool false, .bool false] 45)).drew W' → RowK W' V1.heap.size 0 0 0 false false) := fun W' k => by
            have r : RowK (V1.alloc (.cells #[.int .u32 0, .int .u32 0, .int .u32 0, .bool false, .bool false] 45)).drew V1.heap.size 0 0 0 false false := (MapKept.heap_alloc V1 (.cells #[.int .u32 0, .int .u32 0, .int .u32 0, .bool false, .bool false] 45)).1
            exact r.kp k nNew
          have HRF : Hid (∀ W', RowK W' V1.heap.size 0 0 0 false false → (W'.cell? ⟨V1.heap.size, 0, none⟩ = some (.int .u32 0) ∧ W'.cell? ⟨V1.heap.size, 1, none⟩ = some (.int .u32 0) ∧ W'.cell? ⟨V1.heap.size, 2, none⟩ = some (.int .u32 0) ∧ W'.cell? ⟨V1.heap.size, 3, none⟩ = some (.bool false) ∧ W'.cell? ⟨V1.heap.size, 4, none⟩ = some (.bool false) ∧ W'.frozen? ⟨V1.heap.size, 0, none⟩ = false ∧ W'.frozen? ⟨V1.heap.size, 1, none⟩ = false ∧ W'.frozen? ⟨V1.heap.size, 2, none⟩ = false ∧ W'.frozen? ⟨V1.heap.size, 3, none⟩ = false ∧ W'.frozen? ⟨V1.heap.size, 4, none⟩ = false)) := fun W' r => ⟨r.c0, r.c1, r.c2, r.c3, r.c4, r.fz 0, r.fz 1, r.fz 2, r.fz 3, r.fz 4⟩
          clear s8
          go_upto_region 16 with fail
          go_region_held3 (fun W => (W.cell? ⟨blk, off + i * 5, none⟩ = some (.int .u32 c) ∧ W.cell? ⟨blk, off + i * 5 + 1, none⟩ = some (.int .u32 l) ∧ W.cell? ⟨blk, off + i * 5 + 2, none⟩ = some (.bool xw) ∧ W.cell? ⟨blk, off + i * 5 + 3, none⟩ = some (.bool us) ∧ W.cell? ⟨blk, off + i * 5 + 4, none⟩ = some (.bool wp)))
            (first | with_reducible exact HS0.out | with_reducible exact HSD.out | with_reducible exact HSK.out _ _ k4 HS0.out | with_reducible exact HSK.out _ _ k4 HSD.out | with_reducible exact HSA.out _ _ (HSK.out _ _ k4 HS0.out) | with_reducible exact HSF.out _ (HSK.out _ _ k4 HSD.out))
            (first
              | (go_at_call 19; refine (HD.out _ (by assumption)).mono ?_; rintro e w4 ⟨rfl, hc5, k4⟩; (first | ((with_reducible have rz := HRZ.out _ k4); obtain ⟨z0, z1, z2, z3, z4, y0, y1, y2, y3, y4⟩ := HRF.out _ rz) | skip)))
          · have k4' : Kp (inRam C 16) V1 w4 := ⟨k4.os, k4.tape, k4.output, k4.size, k4.block⟩
            have kA := Kp.alloc noB w4 (.cells #[.int .u32 f, .int .u32 p, .int .u32 q, .bool x, .bool y] 45)
            have rW2 : RowK (w4.alloc (.cells #[.int .u32 f, .int .u32 p, .int .u32 q, .bool x, .bool y] 45)) w4.heap.size f p q x y := (MapKept.heap_alloc w4 _).1
            have hY : V1.heap.size ≤ w4.heap.size := k4'.size
            have s8 := HSA.out w4 (.cells #[.int .u32 f, .int .u32 p, .int .u32 q, .bool x, .bool y] 45) (HSK.out _ _ k4 HS0.out)
            replace k4' : Kp (inRam C 16) V1 (w4.alloc (.cells #[.int .u32 f, .int .u32 p, .int .u32 q, .bool x, .bool y] 45)) := k4'.over kA (fun _ _ f => f.elim)
            replace hc5 : RamAt (w4.alloc (.cells #[.int .u32 f, .int .u32 p, .int .u32 q, .bool x, .bool y] 45)) C M' := hc5.kp kA (fun _ _ f => f)
            have hr5 : RamAt (w4.alloc (.cells #[.int .u32 f, .int .u32 p, .int .u32 q, .bool x, .bool y] 45)) B M' := hr4.kp k4' (fun j hj f => by rw [hM1] at hj; exact HBC.out j (.inl hj) f)
            have t5 : TlbD (w4.alloc (.cells #[.int .u32 f, .int .u32 p, .int .u32 q, .bool x, .bool y] 45)) K B 4 tn4 D4 := t4.kp k4' (fun j hj f => HCK.out j f hj)
            have nY : ¬ inRam C 16 Y1 := fun f => hYn Y1 (.inr (.inl f)) rfl
            replace rW1 := rW1.kp k4' nY
            have kk5 : Kp noB w (w4.alloc (.cells #[.int .u32 f, .int .u32 p, .int .u32 q, .bool x, .bool y] 45)) := kk.over k4' (fun t ht f => by have := HOut.out t (.inr (.inl f)); omega)
            clear kk hc4 hr4 t4 ha1 ha2 nY hYn
            clear HS0 HSD HSK HSA HSF HRZ HRF k4 kA HSG
            obtain ⟨Y2, hYe⟩ : ∃ Y, Y = w4.heap.size := ⟨_, rfl⟩
            obtain ⟨V2, hgen⟩ : ∃ W, W = (w4.alloc (.cells #[.int .u32 f, .int .u32 p, .int .u32 q, .bool x, .bool y] 45)) := ⟨_, rfl⟩
            rw [← hgen] at hc5 hr5 t5 rW1 kk5 s8 rW2 ⊢
            rw [← hYe] at rW2 hY ⊢
            have hYn : ∀ j, (allY B C K Y1) j → ¬ j = Y2 := fun j hj e => by have := hAl j hj; omega
            clear hYe hgen nNew hVl hY hbV k4'
            have d0 := rW1.c0; have d1 := rW1.c1; have d2 := rW1.c2; have d3 := rW1.c3; have d4 := rW1.c4
            have g0 := rW2.c0; have g1 := rW2.c1; have g2 := rW2.c2; have g3 := rW2.c3; have g4 := rW2.c4
            clear HC HD hYn
            go_wp2_with fail
            go_roundg (L - j)
            case measure => have := HJ.out; have := HKm.out; omega
            case rel => exact ⟨j, M', D4, tn4, by rw [HJ.out]; rfl, by have := HJ.out; omega, Nat.le_refl _, ⟨hM1, hM2⟩, hr5, hc5, t5, by have := HJ.out; have := HTn.out; omega, kk5⟩
          · have k4' : Kp (inRam C 16) (V1.alloc (.cells #[.int .u32 0, .int .u32 0, .int .u32 0, .bool false, .bool false] 45)) w4 := ⟨k4.os, k4.tape, k4.output, k4.size, k4.block⟩
            have kA : Kp (inRam C 16) V1 (V1.alloc (.cells #[.int .u32 0, .int .u32 0, .int .u32 0, .bool false, .bool false] 45)) := Kp.alloc _ V1 _
            replace k4' := kA.trans k4'
            have rW2 : RowK (((((w4.setCell ⟨V1.heap.size, 0, none⟩ (.int .u32 f)).setCell ⟨V1.heap.size, 1, none⟩ (.int .u32 p)).setCell ⟨V1.heap.size, 2, none⟩ (.int .u32 q)).setCell ⟨V1.heap.size, 3, none⟩ (.bool x)).setCell ⟨V1.heap.size, 4, none⟩ (.bool y)) V1.heap.size f p q x y := ((((rz.s0 f).s1 p).s2 q).s3 x).s4 y
            have kF := Kp.five_in w4 V1.heap.size (.int .u32 f) (.int .u32 p) (.int .u32 q) (.bool x) (.bool y)
            have s8 := HSF.out w4 (HSK.out _ _ k4 HSD.out)
            have nI : ∀ j, (allY B C K Y1) j → ¬ j = V1.heap.size := fun j hj e => by have := hAl j hj; omega
            replace hc5 : RamAt (((((w4.setCell ⟨V1.heap.size, 0, none⟩ (.int .u32 f)).setCell ⟨V1.heap.size, 1, none⟩ (.int .u32 p)).setCell ⟨V1.heap.size, 2, none⟩ (.int .u32 q)).setCell ⟨V1.heap.size, 3, none⟩ (.bool x)).setCell ⟨V1.heap.size, 4, none⟩ (.bool y)) C M' := hc5.kp kF (fun j hj => nI j (.inl (.inr (.inl (by rw [hM1] at hj; exact hj)))))
            have hr5 : RamAt (((((w4.setCell ⟨V1.heap.size, 0, none⟩ (.int .u32 f)).setCell ⟨V1.heap.size, 1, none⟩ (.int .u32 p)).setCell ⟨V1.heap.size, 2, none⟩ (.int .u32 q)).setCell ⟨V1.heap.size, 3, none⟩ (.bool x)).setCell ⟨V1.heap.size, 4, none⟩ (.bool y)) B M' := (hr4.kp k4' (fun j hj f => by rw [hM1] at hj; exact HBC.out j (.inl hj) f)).kp kF (fun j hj => nI j (.inl (.inl (by rw [hM1] at hj; exact hj))))
            have t5 : TlbD (((((w4.setCell ⟨V1.heap.size, 0, none⟩ (.int .u32 f)).setCell ⟨V1.heap.size, 1, none⟩ (.int .u32 p)).setCell ⟨V1.heap.size, 2, none⟩ (.int .u32 q)).setCell ⟨V1.heap.size, 3, none⟩ (.bool x)).setCell ⟨V1.heap.size, 4, none⟩ (.bool y)) K B 4 tn4 D4 := (t4.kp k4' (fun j hj f => HCK.out j f hj)).kp kF (fun j hj => nI j (.inl (.inr (.inr hj))))
            have nY : ¬ inRam C 16 Y1 := fun f => hYn Y1 (.inr (.inl f)) rfl
            replace rW1 := (rW1.kp k4' nY).kp kF (nI Y1 (.inr rfl))
            have kk5 : Kp noB w (((((w4.setCell ⟨V1.heap.size, 0, none⟩ (.int .u32 f)).setCell ⟨V1.heap.size, 1, none⟩ (.int .u32 p)).setCell ⟨V1.heap.size, 2, none⟩ (.int .u32 q)).setCell ⟨V1.heap.size, 3, none⟩ (.bool x)).setCell ⟨V1.heap.size, 4, none⟩ (.bool y)) := (kk.over k4' (fun t ht f => by have := HOut.out t (.inr (.inl f)); omega)).five kk.size _ _ _ _ _
            clear kk hc4 hr4 t4 ha1 ha2 nI nY hYn
            clear HS0 HSD HSK HSA HSF HRZ HRF k4 kA kF HSG rz z0 z1 z2 z3 z4 y0 y1 y2 y3 y4
            obtain ⟨Y2, hYe⟩ : ∃ Y, Y = V1.heap.size := ⟨_, rfl⟩
            obtain ⟨V2, hgen⟩ : ∃ W, W = (((((w4.setCell ⟨V1.heap.size, 0, none⟩ (.int .u32 f)).setCell ⟨V1.heap.size, 1, none⟩ (.int .u32 p)).setCell ⟨V1.heap.size, 2, none⟩ (.int .u32 q)).setCell ⟨V1.heap.size, 3, none⟩ (.bool x)).setCell ⟨V1.heap.size, 4, none⟩ (.bool y)) := ⟨_, rfl⟩
            rw [← hgen] at hc5 hr5 t5 rW1 kk5 s8 rW2 ⊢
            rw [← hYe] at rW2 ⊢
            have hYn : ∀ j, (allY B C K Y1) j → ¬ j = Y2 := fun j hj e => by have := hAl j hj; omega
            clear hYe hgen nNew hVl hbV k4'
            have d0 := rW1.c0; have d1 := rW1.c1; have d2 := rW1.c2; have d3 := rW1.c3; have d4 := rW1.c4
            have g0 := rW2.c0; have g1 := rW2.c1; have g2 := rW2.c2; have g3 := rW2.c3; have g4 := rW2.c4
            clear HC HD hYn
            go_wp2_with fail
            go_roundg (L - j)
            case measure => have := HJ.out; have := HKm.out; omega
            case rel => exact ⟨j, M', D4, tn4, by rw [HJ.out]; rfl, by have := HJ.out; omega, Nat.le_refl _, ⟨hM1, hM2⟩, hr5, hc5, t5, by have := HJ.out; have := HTn.out; omega, kk5⟩
        · have k4' : Kp (fun j => inRam B 16 j ∨ inTlb K j) (V0.alloc (.cells #[.int .u32 0, .int .u32 0, .int .u32 0, .bool false, .bool false] 45)) w4 := ⟨k4.os, k4.tape, k4.output, k4.size, k4.block⟩
          have kA : Kp (fun j => inRam B 16 j ∨ inTlb K j) V0 (V0.alloc (.cells #[.int .u32 0, .int .u32 0, .int .u32 0, .bool false, .bool false] 45)) := Kp.alloc _ V0 _
          replace k4' := kA.trans k4'
          have rW1 : RowK (((((w4.setCell ⟨V0.heap.size, 0, none⟩ (.int .u32 f)).setCell ⟨V0.heap.size, 1, none⟩ (.int .u32 p)).setCell ⟨V0.heap.size, 2, none⟩ (.int .u32 q)).setCell ⟨V0.heap.size, 3, none⟩ (.bool x)).setCell ⟨V0.heap.size, 4, none⟩ (.bool y)) V0.heap.size f p q x y := ((((rz.s0 f).s1 p).s2 q).s3 x).s4 y
          have kF := Kp.five_in w4 V0.heap.size (.int .u32 f) (.int .u32 p) (.int .u32 q) (.bool x) (.bool y)
          have s8 := HSF.out w4 (HSK.out _ _ k4 HSD.out)
          have nI : ∀ j, inTlb K j → ¬ j = V0.heap.size := fun j hj e => by have := hAl j (.inr (.inr hj)); omega
          replace hr4 : RamAt (((((w4.setCell ⟨V0.heap.size, 0, none⟩ (.int .u32 f)).setCell ⟨V0.heap.size, 1, none⟩ (.int .u32 p)).setCell ⟨V0.heap.size, 2, none⟩ (.int .u32 q)).setCell ⟨V0.heap.size, 3, none⟩ (.bool x)).setCell ⟨V0.heap.size, 4, none⟩ (.bool y)) B M' := hr4.kp kF (fun j hj e => by rw [hM1] at hj; have := hAl j (.inl hj); omega)
          replace t4 : TlbD (((((w4.setCell ⟨V0.heap.size, 0, none⟩ (.int .u32 f)).setCell ⟨V0.heap.size, 1, none⟩ (.int .u32 p)).setCell ⟨V0.heap.size, 2, none⟩ (.int .u32 q)).setCell ⟨V0.heap.size, 3, none⟩ (.bool x)).setCell ⟨V0.heap.size, 4, none⟩ (.bool y)) K B 4 tn4 D4 := t4.kp kF nI
          have hc4 : RamAt (((((w4.setCell ⟨V0.heap.size, 0, none⟩ (.int .u32 f)).setCell ⟨V0.heap.size, 1, none⟩ (.int .u32 p)).setCell ⟨V0.heap.size, 2, none⟩ (.int .u32 q)).setCell ⟨V0.heap.size, 3, none⟩ (.bool x)).setCell ⟨V0.heap.size, 4, none⟩ (.bool y)) C M := (hrc.kp k4' (fun j hj f => by rw [hMn] at hj; rcases f with f | f; exact HBC.out j (.inl f) hj; exact HCK.out j hj f)).kp kF (fun j hj e => by rw [hMn] at hj; have := hAl j (.inr (.inl hj)); omega)
          have kk4 : Kp noB w (((((w4.setCell ⟨V0.heap.size, 0, none⟩ (.int .u32 f)).setCell ⟨V0.heap.size, 1, none⟩ (.int .u32 p)).setCell ⟨V0.heap.size, 2, none⟩ (.int .u32 q)).setCell ⟨V0.heap.size, 3, none⟩ (.bool x)).setCell ⟨V0.heap.size, 4, none⟩ (.bool y)) := (kk.over k4' (fun t ht f => by have := HOut.out t (by rcases f with f | f; exact .inl f; exact .inr (.inr f)); omega)).five kk.size _ _ _ _ _
          clear kk hrc hra tl ha1 ha2 hb1 hb2 nI
          clear HS0 HSD HSK HSA HSF HRZ HRF k4 kA kF HSG rz z0 z1 z2 z3 z4 y0 y1 y2 y3 y4
          obtain ⟨Y1, hYe⟩ : ∃ Y, Y = V0.heap.size := ⟨_, rfl⟩
          obtain ⟨V1, hgen⟩ : ∃ W, W = (((((w4.setCell ⟨V0.heap.size, 0, none⟩ (.int .u32 f)).setCell ⟨V0.heap.size, 1, none⟩ (.int .u32 p)).setCell ⟨V0.heap.size, 2, none⟩ (.int .u32 q)).setCell ⟨V0.heap.size, 3, none⟩ (.bool x)).setCell ⟨V0.heap.size, 4, none⟩ (.bool y)) := ⟨_, rfl⟩
          rw [← hgen] at hr4 t4 hc4 kk4 s8 rW1 ⊢
          rw [← hYe] at rW1 ⊢
          have hYn : ∀ j, (allT B C K) j → ¬ j = Y1 := fun j hj e => by have := hAl j hj; omega
          clear hYe hgen nNew hVl hbV k4'
          rename Kp noB w V1 => kk
          have hbV : blk < V1.heap.size := Nat.lt_of_lt_of_le hblk0 kk.size
          have hVl : ∀ j, (inRam C 16) j → j < V1.heap.size := fun j hj => by
            have := hc4.lt; rw [hMn] at this; have := hj.2; omega
          have nNew : ¬ (inRam C 16) V1.heap.size := fun f => by have := hVl _ f; omega
          have HSG : Hid (∀ (T : Nat → Prop) (W W' : World), Kp T W W' → ¬ T blk → (W.cell? ⟨blk, off + i * 5, none⟩ = some (.int .u32 c) ∧ W.cell? ⟨blk, off + i * 5 + 1, none⟩ = some (.int .u32 l) ∧ W.cell? ⟨blk, off + i * 5 + 2, none⟩ = some (.bool xw) ∧ W.cell? ⟨blk, off + i * 5 + 3, none⟩ = some (.bool us) ∧ W.cell? ⟨blk, off + i * 5 + 4, none⟩ = some (.bool wp)) → (W'.cell? ⟨blk, off + i * 5, none⟩ = some (.int .u32 c) ∧ W'.cell? ⟨blk, off + i * 5 + 1, none⟩ = some (.int .u32 l) ∧ W'.cell? ⟨blk, off + i * 5 + 2, none⟩ = some (.bool xw) ∧ W'.cell? ⟨blk, off + i * 5 + 3, none⟩ = some (.bool us) ∧ W'.cell? ⟨blk, off + i * 5 + 4, none⟩ = some (.bool wp))) := fun T W W' k h1 ⟨a0, a1, a2, a3, a4⟩ => ⟨cell_kp a0 k h1, cell_kp a1 k h1, cell_kp a2 k h1, cell_kp a3 k h1, cell_kp a4 k h1⟩
          have HS0 : Hid (V1.drew.cell? ⟨blk, off + i * 5, none⟩ = some (.int .u32 c) ∧ V1.drew.cell? ⟨blk, off + i * 5 + 1, none⟩ = some (.int .u32 l) ∧ V1.drew.cell? ⟨blk, off + i * 5 + 2, none⟩ = some (.bool xw) ∧ V1.drew.cell? ⟨blk, off + i * 5 + 3, none⟩ = some (.bool us) ∧ V1.drew.cell? ⟨blk, off + i * 5 + 4, none⟩ = some (.bool wp)) := s8
          have HSD : Hid ((V1.alloc (.cells #[.int .u32 0, .int .u32 0, .int .u32 0, .bool false, .bool false] 45)).drew.cell? ⟨blk, off + i * 5, none⟩ = some (.int .u32 c) ∧ (V1.alloc (.cells #[.int .u32 0, .int .u32 0, .int .u32 0, .bool false, .bool false] 45)).drew.cell? ⟨blk, off + i * 5 + 1, none⟩ = some (.int .u32 l) ∧ (V1.alloc (.cells #[.int .u32 0, .int .u32 0, .int .u32 0, .bool false, .bool false] 45)).drew.cell? ⟨blk, off + i * 5 + 2, none⟩ = some (.bool xw) ∧ (V1.alloc (.cells #[.int .u32 0, .int .u32 0, .int .u32 0, .bool false, .bool false] 45)).drew.cell? ⟨blk, off + i * 5 + 3, none⟩ = some (.bool us) ∧ (V1.alloc (.cells #[.int .u32 0, .int .u32 0, .int .u32 0, .bool false, .bool false] 45)).drew.cell? ⟨blk, off + i * 5 + 4, none⟩ = some (.bool wp)) := HSG.out noB V1 _ ((Kp.alloc noB V1 (.cells #[.int .u32 0, .int .u32 0, .int .u32 0, .bool false, .bool false] 45)).drew) (fun f => f) s8
          have HSK : Hid (∀ W W', Kp (inRam C 16) W W' → (W.cell? ⟨blk, off + i * 5, none⟩ = some (.int .u32 c) ∧ W.cell? ⟨blk, off + i * 5 + 1, none⟩ = some (.int .u32 l) ∧ W.cell? ⟨blk, off + i * 5 + 2, none⟩ = some (.bool xw) ∧ W.cell? ⟨blk, off + i * 5 + 3, none⟩ = some (.bool us) ∧ W.cell? ⟨blk, off + i * 5 + 4, none⟩ = some (.bool wp)) → (W'.cell? ⟨blk, off + i * 5, none⟩ = some (.int .u32 c) ∧ W'.cell? ⟨blk, off + i * 5 + 1, none⟩ = some (.int .u32 l) ∧ W'.cell? ⟨blk, off + i * 5 + 2, none⟩ = some (.bool xw) ∧ W'.cell? ⟨blk, off + i * 5 + 3, none⟩ = some (.bool us) ∧ W'.cell? ⟨blk, off + i * 5 + 4, none⟩ = some (.bool wp))) := fun W W' k => HSG.out _ W W' k (fun f => by have := HOut.out _ (.inr (.inl f)); omega)
          have HSA : Hid (∀ (W : World) (O : Obj), (W.cell? ⟨blk, off + i * 5, none⟩ = some (.int .u32 c) ∧ W.cell? ⟨blk, off + i * 5 + 1, none⟩ = some (.int .u32 l) ∧ W.cell? ⟨blk, off + i * 5 + 2, none⟩ = some (.bool xw) ∧ W.cell? ⟨blk, off + i * 5 + 3, none⟩ = some (.bool us) ∧ W.cell? ⟨blk, off + i * 5 + 4, none⟩ = some (.bool wp)) → ((W.alloc O).cell? ⟨blk, off + i * 5, none⟩ = some (.int .u32 c) ∧ (W.alloc O).cell? ⟨blk, off + i * 5 + 1, none⟩ = some (.int .u32 l) ∧ (W.alloc O).cell? ⟨blk, off + i * 5 + 2, none⟩ = some (.bool xw) ∧ (W.alloc O).cell? ⟨blk, off + i * 5 + 3, none⟩ = some (.bool us) ∧ (W.alloc O).cell? ⟨blk, off + i * 5 + 4, none⟩ = some (.bool wp))) := fun W O => HSG.out noB W _ (Kp.alloc noB W O) (fun f => f)
          have HSF : Hid (∀ (W : World), (W.cell? ⟨blk, off + i * 5, none⟩ = some (.int .u32 c) ∧ W.cell? ⟨blk, off + i * 5 + 1, none⟩ = some (.int .u32 l) ∧ W.cell? ⟨blk, off + i * 5 + 2, none⟩ = some (.bool xw) ∧ W.cell? ⟨blk, off + i * 5 + 3, none⟩ = some (.bool us) ∧ W.cell? ⟨blk, off + i * 5 + 4, none⟩ = some (.bool wp)) → ((((((W.setCell ⟨V1.heap.size, 0, none⟩ (.int .u32 f)).setCell ⟨V1.heap.size, 1, none⟩ (.int .u32 p)).setCell ⟨V1.heap.size, 2, none⟩ (.int .u32 q)).setCell ⟨V1.heap.size, 3, none⟩ (.bool x)).setCell ⟨V1.heap.size, 4, none⟩ (.bool y)).cell? ⟨blk, off + i * 5, none⟩ = some (.int .u32 c) ∧ (((((W.setCell ⟨V1.heap.size, 0, none⟩ (.int .u32 f)).setCell ⟨V1.heap.size, 1, none⟩ (.int .u32 p)).setCell ⟨V1.heap.size, 2, none⟩ (.int .u32 q)).setCell ⟨V1.heap.size, 3, none⟩ (.bool x)).setCell ⟨V1.heap.size, 4, none⟩ (.bool y)).cell? ⟨blk, off + i * 5 + 1, none⟩ = some (.int .u32 l) ∧ (((((W.setCell ⟨V1.heap.size, 0, none⟩ (.int .u32 f)).setCell ⟨V1.heap.size, 1, none⟩ (.int .u32 p)).setCell ⟨V1.heap.size, 2, none⟩ (.int .u32 q)).setCell ⟨V1.heap.size, 3, none⟩ (.bool x)).setCell ⟨V1.heap.size, 4, none⟩ (.bool y)).cell? ⟨blk, off + i * 5 + 2, none⟩ = some (.bool xw) ∧ (((((W.setCell ⟨V1.heap.size, 0, none⟩ (.int .u32 f)).setCell ⟨V1.heap.size, 1, none⟩ (.int .u32 p)).setCell ⟨V1.heap.size, 2, none⟩ (.int .u32 q)).setCell ⟨V1.heap.size, 3, none⟩ (.bool x)).setCell ⟨V1.heap.size, 4, none⟩ (.bool y)).cell? ⟨blk, off + i * 5 + 3, none⟩ = some (.bool us) ∧ (((((W.setCell ⟨V1.heap.size, 0, none⟩ (.int .u32 f)).setCell ⟨V1.heap.size, 1, none⟩ (.int .u32 p)).setCell ⟨V1.heap.size, 2, none⟩ (.int .u32 q)).setCell ⟨V1.heap.size, 3, none⟩ (.bool x)).setCell ⟨V1.heap.size, 4, none⟩ (.bool y)).cell? ⟨blk, off + i * 5 + 4, none⟩ = some (.bool wp))) := fun W => HSG.out _ W _ (Kp.five_in W V1.heap.size _ _ _ _ _) (by omega)
          have ha1 : RamAt V1.drew C M := hc4.kept (fun _ _ => rfl)
          have ha2 : RamAt (V1.alloc (.cells #[.int .u32 0, .int .u32 0, .int .u32 0, .bool false, .bool false] 45)).drew C M := hc4.kp ((Kp.alloc noB V1 (.cells #[.int .u32 0, .int .u32 0, .int .u32 0, .bool false, .bool false] 45)).drew) (fun _ _ f => f)
          have hAl : ∀ j, (allY B C K Y1) j → j < V1.heap.size := fun j hj => by
            rcases hj with (f | f | f) | f
            · have := hr4.lt; rw [hM1] at this; have := f.2; omega
            · have := hc4.lt; rw [hMn] at this; have := f.2; omega
            · have := t4.lt; rcases f with e | e <;> omega
            · have := rW1.lt; omega
          have HRZ : Hid (∀ W', Kp (inRam C 16) (V1.alloc (.cells #[.int .u32 0, .int .u32 0, .int .u32 0, .bool false, .bool false] 45)).drew W' → RowK W' V1.heap.size 0 0 0 false false) := fun W' k => by
            have r : RowK (V1.alloc (.cells #[.int .u32 0, .int .u32 0, .int .u32 0, .bool false, .bool false] 45)).drew V1.heap.size 0 0 0 false false := (MapKept.heap_alloc V1 (.cells #[.int .u32 0, .int .u32 0, .int .u32 0, .bool false, .bool false] 45)).1
            exact r.kp k nNew
          have HRF : Hid (∀ W', RowK W' V1.heap.size 0 0 0 false false → (W'.cell? ⟨V1.heap.size, 0, none⟩ = some (.int .u32 0) ∧ W'.cell? ⟨V1.heap.size, 1, none⟩ = some (.int .u32 0) ∧ W'.cell? ⟨V1.heap.size, 2, none⟩ = some (.int .u32 0) ∧ W'.cell? ⟨V1.heap.size, 3, none⟩ = some (.bool false) ∧ W'.cell? ⟨V1.heap.size, 4, none⟩ = some (.bool false) ∧ W'.frozen? ⟨V1.heap.size, 0, none⟩ = false ∧ W'.frozen? ⟨V1.heap.size, 1, none⟩ = false ∧ W'.frozen? ⟨V1.heap.size, 2, none⟩ = false ∧ W'.frozen? ⟨V1.heap.size, 3, none⟩ = false ∧ W'.frozen? ⟨V1.heap.size, 4, none⟩ = false)) := fun W' r => ⟨r.c0, r.c1, r.c2, r.c3, r.c4, r.fz 0, r.fz 1, r.fz 2, r.fz 3, r.fz 4⟩
          clear s8
          go_upto_region 16 with fail
          go_region_held3 (fun W => (W.cell? ⟨blk, off + i * 5, none⟩ = some (.int .u32 c) ∧ W.cell? ⟨blk, off + i * 5 + 1, none⟩ = some (.int .u32 l) ∧ W.cell? ⟨blk, off + i * 5 + 2, none⟩ = some (.bool xw) ∧ W.cell? ⟨blk, off + i * 5 + 3, none⟩ = some (.bool us) ∧ W.cell? ⟨blk, off + i * 5 + 4, none⟩ = some (.bool wp)))
            (first | with_reducible exact HS0.out | with_reducible exact HSD.out | with_reducible exact HSK.out _ _ k4 HS0.out | with_reducible exact HSK.out _ _ k4 HSD.out | with_reducible exact HSA.out _ _ (HSK.out _ _ k4 HS0.out) | with_reducible exact HSF.out _ (HSK.out _ _ k4 HSD.out))
            (first
              | (go_at_call 19; refine (HD.out _ (by assumption)).mono ?_; rintro e w4 ⟨rfl, hc5, k4⟩; (first | ((with_reducible have rz := HRZ.out _ k4); obtain ⟨z0, z1, z2, z3, z4, y0, y1, y2, y3, y4⟩ := HRF.out _ rz) | skip)))
          · have k4' : Kp (inRam C 16) V1 w4 := ⟨k4.os, k4.tape, k4.output, k4.size, k4.block⟩
            have kA := Kp.alloc noB w4 (.cells #[.int .u32 f, .int .u32 p, .int .u32 q, .bool x, .bool y] 45)
            have rW2 : RowK (w4.alloc (.cells #[.int .u32 f, .int .u32 p, .int .u32 q, .bool x, .bool y] 45)) w4.heap.size f p q x y := (MapKept.heap_alloc w4 _).1
            have hY : V1.heap.size ≤ w4.heap.size := k4'.size
            have s8 := HSA.out w4 (.cells #[.int .u32 f, .int .u32 p, .int .u32 q, .bool x, .bool y] 45) (HSK.out _ _ k4 HS0.out)
            replace k4' : Kp (inRam C 16) V1 (w4.alloc (.cells #[.int .u32 f, .int .u32 p, .int .u32 q, .bool x, .bool y] 45)) := k4'.over kA (fun _ _ f => f.elim)
            replace hc5 : RamAt (w4.alloc (.cells #[.int .u32 f, .int .u32 p, .int .u32 q, .bool x, .bool y] 45)) C M' := hc5.kp kA (fun _ _ f => f)
            have hr5 : RamAt (w4.alloc (.cells #[.int .u32 f, .int .u32 p, .int .u32 q, .bool x, .bool y] 45)) B M' := hr4.kp k4' (fun j hj f => by rw [hM1] at hj; exact HBC.out j (.inl hj) f)
            have t5 : TlbD (w4.alloc (.cells #[.int .u32 f, .int .u32 p, .int .u32 q, .bool x, .bool y] 45)) K B 4 tn4 D4 := t4.kp k4' (fun j hj f => HCK.out j f hj)
            have nY : ¬ inRam C 16 Y1 := fun f => hYn Y1 (.inr (.inl f)) rfl
            replace rW1 := rW1.kp k4' nY
            have kk5 : Kp noB w (w4.alloc (.cells #[.int .u32 f, .int .u32 p, .int .u32 q, .bool x, .bool y] 45)) := kk.over k4' (fun t ht f => by have := HOut.out t (.inr (.inl f)); omega)
            clear kk hc4 hr4 t4 ha1 ha2 nY hYn
            clear HS0 HSD HSK HSA HSF HRZ HRF k4 kA HSG
            obtain ⟨Y2, hYe⟩ : ∃ Y, Y = w4.heap.size := ⟨_, rfl⟩
            obtain ⟨V2, hgen⟩ : ∃ W, W = (w4.alloc (.cells #[.int .u32 f, .int .u32 p, .int .u32 q, .bool x, .bool y] 45)) := ⟨_, rfl⟩
            rw [← hgen] at hc5 hr5 t5 rW1 kk5 s8 rW2 ⊢
            rw [← hYe] at rW2 hY ⊢
            have hYn : ∀ j, (allY B C K Y1) j → ¬ j = Y2 := fun j hj e => by have := hAl j hj; omega
            clear hYe hgen nNew hVl hY hbV k4'
            have d0 := rW1.c0; have d1 := rW1.c1; have d2 := rW1.c2; have d3 := rW1.c3; have d4 := rW1.c4
            have g0 := rW2.c0; have g1 := rW2.c1; have g2 := rW2.c2; have g3 := rW2.c3; have g4 := rW2.c4
            clear HC HD hYn
            go_wp2_with fail
            go_roundg (L - j)
            case measure => have := HJ.out; have := HKm.out; omega
            case rel => exact ⟨j, M', D4, tn4, by rw [HJ.out]; rfl, by have := HJ.out; omega, Nat.le_refl _, ⟨hM1, hM2⟩, hr5, hc5, t5, by have := HJ.out; have := HTn.out; omega, kk5⟩
          · have k4' : Kp (inRam C 16) (V1.alloc (.cells #[.int .u32 0, .int .u32 0, .int .u32 0, .bool false, .bool false] 45)) w4 := ⟨k4.os, k4.tape, k4.output, k4.size, k4.block⟩
            have kA : Kp (inRam C 16) V1 (V1.alloc (.cells #[.int .u32 0, .int .u32 0, .int .u32 0, .bool false, .bool false] 45)) := Kp.alloc _ V1 _
            replace k4' := kA.trans k4'
            have rW2 : RowK (((((w4.setCell ⟨V1.heap.size, 0, none⟩ (.int .u32 f)).setCell ⟨V1.heap.size, 1, none⟩ (.int .u32 p)).setCell ⟨V1.heap.size, 2, none⟩ (.int .u32 q)).setCell ⟨V1.heap.size, 3, none⟩ (.bool x)).setCell ⟨V1.heap.size, 4, none⟩ (.bool y)) V1.heap.size f p q x y := ((((rz.s0 f).s1 p).s2 q).s3 x).s4 y
            have kF := Kp.five_in w4 V1.heap.size (.int .u32 f) (.int .u32 p) (.int .u32 q) (.bool x) (.bool y)
            have s8 := HSF.out w4 (HSK.out _ _ k4 HSD.out)
            have nI : ∀ j, (allY B C K Y1) j → ¬ j = V1.heap.size := fun j hj e => by have := hAl j hj; omega
            replace hc5 : RamAt (((((w4.setCell ⟨V1.heap.size, 0, none⟩ (.int .u32 f)).setCell ⟨V1.heap.size, 1, none⟩ (.int .u32 p)).setCell ⟨V1.heap.size, 2, none⟩ (.int .u32 q)).setCell ⟨V1.heap.size, 3, none⟩ (.bool x)).setCell ⟨V1.heap.size, 4, none⟩ (.bool y)) C M' := hc5.kp kF (fun j hj => nI j (.inl (.inr (.inl (by rw [hM1] at hj; exact hj)))))
            have hr5 : RamAt (((((w4.setCell ⟨V1.heap.size, 0, none⟩ (.int .u32 f)).setCell ⟨V1.heap.size, 1, none⟩ (.int .u32 p)).setCell ⟨V1.heap.size, 2, none⟩ (.int .u32 q)).setCell ⟨V1.heap.size, 3, none⟩ (.bool x)).setCell ⟨V1.heap.size, 4, none⟩ (.bool y)) B M' := (hr4.kp k4' (fun j hj f => by rw [hM1] at hj; exact HBC.out j (.inl hj) f)).kp kF (fun j hj => nI j (.inl (.inl (by rw [hM1] at hj; exact hj))))
            have t5 : TlbD (((((w4.setCell ⟨V1.heap.size, 0, none⟩ (.int .u32 f)).setCell ⟨V1.heap.size, 1, none⟩ (.int .u32 p)).setCell ⟨V1.heap.size, 2, none⟩ (.int .u32 q)).setCell ⟨V1.heap.size, 3, none⟩ (.bool x)).setCell ⟨V1.heap.size, 4, none⟩ (.bool y)) K B 4 tn4 D4 := (t4.kp k4' (fun j hj f => HCK.out j f hj)).kp kF (fun j hj => nI j (.inl (.inr (.inr hj))))
            have nY : ¬ inRam C 16 Y1 := fun f => hYn Y1 (.inr (.inl f)) rfl
            replace rW1 := (rW1.kp k4' nY).kp kF (nI Y1 (.inr rfl))
            have kk5 : Kp noB w (((((w4.setCell ⟨V1.heap.size, 0, none⟩ (.int .u32 f)).setCell ⟨V1.heap.size, 1, none⟩ (.int .u32 p)).setCell ⟨V1.heap.size, 2, none⟩ (.int .u32 q)).setCell ⟨V1.heap.size, 3, none⟩ (.bool x)).setCell ⟨V1.heap.size, 4, none⟩ (.bool y)) := (kk.over k4' (fun t ht f => by have := HOut.out t (.inr (.inl f)); omega)).five kk.size _ _ _ _ _
            clear kk hc4 hr4 t4 ha1 ha2 nI nY hYn
            clear HS0 HSD HSK HSA HSF HRZ HRF k4 kA kF HSG rz z0 z1 z2 z3 z4 y0 y1 y2 y3 y4
            obtain ⟨Y2, hYe⟩ : ∃ Y, Y = V1.heap.size := ⟨_, rfl⟩
            obtain ⟨V2, hgen⟩ : ∃ W, W = (((((w4.setCell ⟨V1.heap.size, 0, none⟩ (.int .u32 f)).setCell ⟨V1.heap.size, 1, none⟩ (.int .u32 p)).setCell ⟨V1.heap.size, 2, none⟩ (.int .u32 q)).setCell ⟨V1.heap.size, 3, none⟩ (.bool x)).setCell ⟨V1.heap.size, 4, none⟩ (.bool y)) := ⟨_, rfl⟩
            rw [← hgen] at hc5 hr5 t5 rW1 kk5 s8 rW2 ⊢
            rw [← hYe] at rW2 ⊢
            have hYn : ∀ j, (allY B C K Y1) j → ¬ j = Y2 := fun j hj e => by have := hAl j hj; omega
            clear hYe hgen nNew hVl hbV k4'
            have d0 := rW1.c0; have d1 := rW1.c1; have d2 := rW1.c2; have d3 := rW1.c3; have d4 := rW1.c4
            have g0 := rW2.c0; have g1 := rW2.c1; have g2 := rW2.c2; have g3 := rW2.c3; have g4 := rW2.c4
            clear HC HD hYn
            go_wp2_with fail
            go_roundg (L - j)
            case measure => have := HJ.out; have := HKm.out; omega
            case rel => exact ⟨j, M', D4, tn4, by rw [HJ.out]; rfl, by have := HJ.out; omega, Nat.le_refl _, ⟨hM1, hM2⟩, hr5, hc5, t5, by have := HJ.out; have := HTn.out; omega, kk5⟩
    · go_wp2_with fail
      go_wp2
      go_ret
      exact ⟨rfl, kk.every⟩
end Go.Proofs.Ytljlcejnadmgkaa
