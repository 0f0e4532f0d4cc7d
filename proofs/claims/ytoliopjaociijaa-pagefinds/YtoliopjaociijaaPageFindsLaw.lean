/- The walk of the statement PageFinds: any walks find what the document says, and leave what it says. -/
import Derived.Test.YtoliopjaociijaaPgOpen
import Derived.Test.YtoliopjaociijaaPgRefAny
namespace Go.Proofs.Ytoliopjaociijaa
open Go.ChangeShapes Go.WideShapes Go.ChangeAt Go.RowKit Go.Maps
set_option linter.unusedVariables false

def PfL (w : World) (B : Nat) (R : Rf) (L k : Nat) (s : Value) (wr : World) : Prop :=
  ∃ (i : Nat) (M : Mem), s = .int .i64 i ∧ i ≤ L ∧ L - i ≤ k ∧ (M.n = 16 ∧ M.closed = false) ∧ Both wr B R M ∧ Kp noB w wr

set_option maxRecDepth 100000 in
set_option maxHeartbeats 4000000 in
theorem PageFinds_walk (w : World) (a0 : Option Addr) (len0 cap0 : Nat) (wf wg : Nat → Int) (q0 : len0 ≤ 9223372036854775807) (ws0 : ∀ i, i < len0 → WordIn w a0 wf wg i)
    (a1 : Option Addr) (len1 cap1 : Nat) (og : Nat → Int) (q1 : len1 ≤ 9223372036854775807) (ws1 : ∀ i, i < len1 → OnlyIn w a1 og i)
    (a2 : Option Addr) (L cap2 : Nat) (q2 : L ≤ 9223372036854775807) (ws2 : ∀ i, i < L → AskIn w a2 i) :
    Calls Try.prog 3 #[.slice a0 len0 cap0, .slice a1 len1 cap1, .slice a2 L cap2] w fun e w' => e = .returned (.bool true) ∧ Below w.heap.size w w' := by
  have HB : Hid (∀ W, Kp noB w W → Calls Try.prog 8 #[.int .i64 16, .slice a0 len0 cap0, .slice a1 len1 cap1] W (BothPost W (memOf wf wg og len0 len1))) := fun W kW => both_any W a0 a1 len0 cap0 len1 cap1 wf wg og q0 q1 (fun i hi => (ws0 i hi).kp kW) (fun i hi => (ws1 i hi).kp kW)
  have HS : Hid (∀ i, i < L → AskIn w a2 i) := ws2
  have hms := memOf_same wf wg og len0 len1
  obtain ⟨M0, hM0⟩ : ∃ M0, M0 = memOf wf wg og len0 len1 := ⟨_, rfl⟩
  rw [← hM0] at HB hms
  clear ws0 ws1 ws2 hM0
  go_enter Try.func3, Try.ntmps3
  go_wp2_with fail
  refine (awake_any _).mono ?_; rintro e w1 ⟨rfl, k1⟩
  go_wp2_with fail
  refine (HB.out _ k1).mono ?_; rintro e w2 ⟨B, R, rfl, hB2, hout, k2⟩
  have hs1 := k1.size
  have HO : Hid (∀ j, both B 16 R j → w.heap.size ≤ j) := fun j hj => by have := hout j hj; omega
  replace k2 := k1.trans k2
  clear HB k1 hout hs1
  go_wp2_with fail
  go_loopg [10] L (PfL w B R L)
  case atStart => exact ⟨0, M0, rfl, Nat.zero_le _, Nat.le_refl _, hms, hB2, k2⟩
  case round =>
    clear hB2 k2 hms
    obtain ⟨i, M, rfl, hi1, hik, ⟨hMn, hMc⟩, hBo, kk⟩ := hrel
    by_cases hlt : (i : Int) < (L : Int)
    · have hi' : i < L := by omega
      obtain ⟨blk, off, c, l, xw, us, wp, rfl, hblk, ⟨c0, c1, c2, c3, c4⟩, ⟨b0, b1, b2, b3⟩⟩ := (HS.out i hi').kp kk
      have hblk0 : blk < w.heap.size := by obtain ⟨b', o', _, _, _, _, _, e1, h2, _⟩ := HS.out i hi'; cases e1; exact h2
      have nb : ¬ both B 16 R blk := fun f => by have := HO.out _ f; omega
      obtain ⟨f, p, q, x, y, hwk⟩ := fWalk_is M c l xw us wp
      have cb := fCode_bd M c l xw us wp
      have hsm := fMem_same M c l xw us wp
      have HC : Hid (∀ W, RamAt W B M → Calls Try.prog 9 #[.pointer (some ⟨B + 3, 0, none⟩), .int .u32 c, .int .u32 l, .agg #[.bool xw, .bool us, .bool wp]] W (fun e w' => e = .returned (.tuple #[.agg #[.int .u32 f, .int .u32 p, .int .u32 q, .bool x, .bool y], .int .i64 (fCode M c l xw us wp), .int .i64 0]) ∧ RamAt w' B (fMem M c l xw us wp) ∧ Kp (inRam B 16) W w')) := fun W hW => by
        have := find_ok W B M hW c l xw us wp b0 b1 b2 b3
        unfold FdPost at this
        rw [hwk, hMn] at this
        exact this
      have HD : Hid (∀ W, RefAt W R M → Calls Try.prog 10 #[.pointer (some ⟨R.r, 0, none⟩), .int .u32 c, .int .u32 l, .agg #[.bool xw, .bool us, .bool wp]] W (fun e w' => e = .returned (.tuple #[.agg #[.int .u32 f, .int .u32 p, .int .u32 q, .bool x, .bool y], .int .i64 (fCode M c l xw us wp)]) ∧ RefAt w' R (fMem M c l xw us wp) ∧ Kp R.has W w')) := fun W hW => by
        have := rfind_any W R M hW hBo.ram.rdB c l xw us wp b0 b1 b2 b3
        unfold RdPost at this
        rw [hwk] at this
        exact this
      rw [hMn] at hsm
      obtain ⟨M', hM'⟩ : ∃ M', M' = fMem M c l xw us wp := ⟨_, rfl⟩
      obtain ⟨cd, hcd⟩ : ∃ cd, cd = fCode M c l xw us wp := ⟨_, rfl⟩
      rw [← hM'] at HC HD hsm
      rw [← hcd] at HC HD cb
      have hM1 : M'.n = 16 := hsm.1
      have hM2 : M'.closed = false := hsm.2.2.trans hMc
      obtain ⟨j, hj⟩ : ∃ j, j = i + 1 := ⟨_, rfl⟩
      have HJ : Hid (j = i + 1) := hj
      have HK : Hid (L - i ≤ gk) := hik
      have HAp : Hid (∀ j, R.has j → ¬ inRam B 16 j) := fun j hj f => by have := hBo.ap j hj; rw [hMn] at this; exact this f
      have hra := hBo.ram
      have hrf := hBo.ref
      clear hj hik hwk hsm hM' hcd hBo hMc
      obtain ⟨b4, b5⟩ := cb
      have HKS : Hid (∀ (S : Nat → Prop) (W W' : World), Kp S W W' → ¬ S blk → (W.cell? ⟨blk, off + i * 5, none⟩ = some (.int .u32 c) ∧ W.cell? ⟨blk, off + i * 5 + 1, none⟩ = some (.int .u32 l) ∧ W.cell? ⟨blk, off + i * 5 + 2, none⟩ = some (.bool xw) ∧ W.cell? ⟨blk, off + i * 5 + 3, none⟩ = some (.bool us) ∧ W.cell? ⟨blk, off + i * 5 + 4, none⟩ = some (.bool wp)) → (W'.cell? ⟨blk, off + i * 5, none⟩ = some (.int .u32 c) ∧ W'.cell? ⟨blk, off + i * 5 + 1, none⟩ = some (.int .u32 l) ∧ W'.cell? ⟨blk, off + i * 5 + 2, none⟩ = some (.bool xw) ∧ W'.cell? ⟨blk, off + i * 5 + 3, none⟩ = some (.bool us) ∧ W'.cell? ⟨blk, off + i * 5 + 4, none⟩ = some (.bool wp))) := fun S W W' k hn ⟨h0, h1, h2, h3, h4⟩ => ⟨cell_kp h0 k hn, cell_kp h1 k hn, cell_kp h2 k hn, cell_kp h3 k hn, cell_kp h4 k hn⟩
      have hbX : blk < wr.heap.size := hblk
      have s8 : (wr.cell? ⟨blk, off + i * 5, none⟩ = some (.int .u32 c) ∧ wr.cell? ⟨blk, off + i * 5 + 1, none⟩ = some (.int .u32 l) ∧ wr.cell? ⟨blk, off + i * 5 + 2, none⟩ = some (.bool xw) ∧ wr.cell? ⟨blk, off + i * 5 + 3, none⟩ = some (.bool us) ∧ wr.cell? ⟨blk, off + i * 5 + 4, none⟩ = some (.bool wp)) := ⟨c0, c1, c2, c3, c4⟩
      have hzR := hra.lt
      rw [hMn] at hzR
      have nNew : ¬ inRam B 16 wr.heap.size := fun f => by have := f.2; omega
      have HRl : Hid (∀ k, R.has k → k < wr.heap.size) := fun k hk => hrf.lt hk
      clear hMn c0 c1 c2 c3 c4
      have HS0 : Hid (wr.drew.cell? ⟨blk, off + i * 5, none⟩ = some (.int .u32 c) ∧ wr.drew.cell? ⟨blk, off + i * 5 + 1, none⟩ = some (.int .u32 l) ∧ wr.drew.cell? ⟨blk, off + i * 5 + 2, none⟩ = some (.bool xw) ∧ wr.drew.cell? ⟨blk, off + i * 5 + 3, none⟩ = some (.bool us) ∧ wr.drew.cell? ⟨blk, off + i * 5 + 4, none⟩ = some (.bool wp)) := s8
      have HSD : Hid ((wr.alloc (.cells #[.int .u32 0, .int .u32 0, .int .u32 0, .bool false, .bool false] 32)).drew.cell? ⟨blk, off + i * 5, none⟩ = some (.int .u32 c) ∧ (wr.alloc (.cells #[.int .u32 0, .int .u32 0, .int .u32 0, .bool false, .bool false] 32)).drew.cell? ⟨blk, off + i * 5 + 1, none⟩ = some (.int .u32 l) ∧ (wr.alloc (.cells #[.int .u32 0, .int .u32 0, .int .u32 0, .bool false, .bool false] 32)).drew.cell? ⟨blk, off + i * 5 + 2, none⟩ = some (.bool xw) ∧ (wr.alloc (.cells #[.int .u32 0, .int .u32 0, .int .u32 0, .bool false, .bool false] 32)).drew.cell? ⟨blk, off + i * 5 + 3, none⟩ = some (.bool us) ∧ (wr.alloc (.cells #[.int .u32 0, .int .u32 0, .int .u32 0, .bool false, .bool false] 32)).drew.cell? ⟨blk, off + i * 5 + 4, none⟩ = some (.bool wp)) := HKS.out noB wr _ ((Kp.alloc noB wr (.cells #[.int .u32 0, .int .u32 0, .int .u32 0, .bool false, .bool false] 32)).drew) (fun f => f) s8
      have HSK : Hid (∀ W W', Kp (inRam B 16) W W' → (W.cell? ⟨blk, off + i * 5, none⟩ = some (.int .u32 c) ∧ W.cell? ⟨blk, off + i * 5 + 1, none⟩ = some (.int .u32 l) ∧ W.cell? ⟨blk, off + i * 5 + 2, none⟩ = some (.bool xw) ∧ W.cell? ⟨blk, off + i * 5 + 3, none⟩ = some (.bool us) ∧ W.cell? ⟨blk, off + i * 5 + 4, none⟩ = some (.bool wp)) → (W'.cell? ⟨blk, off + i * 5, none⟩ = some (.int .u32 c) ∧ W'.cell? ⟨blk, off + i * 5 + 1, none⟩ = some (.int .u32 l) ∧ W'.cell? ⟨blk, off + i * 5 + 2, none⟩ = some (.bool xw) ∧ W'.cell? ⟨blk, off + i * 5 + 3, none⟩ = some (.bool us) ∧ W'.cell? ⟨blk, off + i * 5 + 4, none⟩ = some (.bool wp))) := fun W W' k => HKS.out _ W W' k (fun f => nb (.inl f))
      have HSA : Hid (∀ (W : World) (O : Obj), (W.cell? ⟨blk, off + i * 5, none⟩ = some (.int .u32 c) ∧ W.cell? ⟨blk, off + i * 5 + 1, none⟩ = some (.int .u32 l) ∧ W.cell? ⟨blk, off + i * 5 + 2, none⟩ = some (.bool xw) ∧ W.cell? ⟨blk, off + i * 5 + 3, none⟩ = some (.bool us) ∧ W.cell? ⟨blk, off + i * 5 + 4, none⟩ = some (.bool wp)) → ((W.alloc O).cell? ⟨blk, off + i * 5, none⟩ = some (.int .u32 c) ∧ (W.alloc O).cell? ⟨blk, off + i * 5 + 1, none⟩ = some (.int .u32 l) ∧ (W.alloc O).cell? ⟨blk, off + i * 5 + 2, none⟩ = some (.bool xw) ∧ (W.alloc O).cell? ⟨blk, off + i * 5 + 3, none⟩ = some (.bool us) ∧ (W.alloc O).cell? ⟨blk, off + i * 5 + 4, none⟩ = some (.bool wp))) := fun W O => HKS.out noB W _ (Kp.alloc noB W O) (fun f => f)
      have HSF : Hid (∀ (W : World), (W.cell? ⟨blk, off + i * 5, none⟩ = some (.int .u32 c) ∧ W.cell? ⟨blk, off + i * 5 + 1, none⟩ = some (.int .u32 l) ∧ W.cell? ⟨blk, off + i * 5 + 2, none⟩ = some (.bool xw) ∧ W.cell? ⟨blk, off + i * 5 + 3, none⟩ = some (.bool us) ∧ W.cell? ⟨blk, off + i * 5 + 4, none⟩ = some (.bool wp)) → ((((((W.setCell ⟨wr.heap.size, 0, none⟩ (.int .u32 f)).setCell ⟨wr.heap.size, 1, none⟩ (.int .u32 p)).setCell ⟨wr.heap.size, 2, none⟩ (.int .u32 q)).setCell ⟨wr.heap.size, 3, none⟩ (.bool x)).setCell ⟨wr.heap.size, 4, none⟩ (.bool y)).cell? ⟨blk, off + i * 5, none⟩ = some (.int .u32 c) ∧ (((((W.setCell ⟨wr.heap.size, 0, none⟩ (.int .u32 f)).setCell ⟨wr.heap.size, 1, none⟩ (.int .u32 p)).setCell ⟨wr.heap.size, 2, none⟩ (.int .u32 q)).setCell ⟨wr.heap.size, 3, none⟩ (.bool x)).setCell ⟨wr.heap.size, 4, none⟩ (.bool y)).cell? ⟨blk, off + i * 5 + 1, none⟩ = some (.int .u32 l) ∧ (((((W.setCell ⟨wr.heap.size, 0, none⟩ (.int .u32 f)).setCell ⟨wr.heap.size, 1, none⟩ (.int .u32 p)).setCell ⟨wr.heap.size, 2, none⟩ (.int .u32 q)).setCell ⟨wr.heap.size, 3, none⟩ (.bool x)).setCell ⟨wr.heap.size, 4, none⟩ (.bool y)).cell? ⟨blk, off + i * 5 + 2, none⟩ = some (.bool xw) ∧ (((((W.setCell ⟨wr.heap.size, 0, none⟩ (.int .u32 f)).setCell ⟨wr.heap.size, 1, none⟩ (.int .u32 p)).setCell ⟨wr.heap.size, 2, none⟩ (.int .u32 q)).setCell ⟨wr.heap.size, 3, none⟩ (.bool x)).setCell ⟨wr.heap.size, 4, none⟩ (.bool y)).cell? ⟨blk, off + i * 5 + 3, none⟩ = some (.bool us) ∧ (((((W.setCell ⟨wr.heap.size, 0, none⟩ (.int .u32 f)).setCell ⟨wr.heap.size, 1, none⟩ (.int .u32 p)).setCell ⟨wr.heap.size, 2, none⟩ (.int .u32 q)).setCell ⟨wr.heap.size, 3, none⟩ (.bool x)).setCell ⟨wr.heap.size, 4, none⟩ (.bool y)).cell? ⟨blk, off + i * 5 + 4, none⟩ = some (.bool wp))) := fun W => HKS.out _ W _ (Kp.five_in W wr.heap.size _ _ _ _ _) (by omega)
      have ha1 : RamAt wr.drew B M := hra.kept (fun _ _ => rfl)
      have ha2 : RamAt (wr.alloc (.cells #[.int .u32 0, .int .u32 0, .int .u32 0, .bool false, .bool false] 32)).drew B M := hra.kp ((Kp.alloc noB wr (.cells #[.int .u32 0, .int .u32 0, .int .u32 0, .bool false, .bool false] 32)).drew) (fun _ _ f => f)
      have HRZ : Hid (∀ W', Kp (inRam B 16) (wr.alloc (.cells #[.int .u32 0, .int .u32 0, .int .u32 0, .bool false, .bool false] 32)).drew W' → RowK W' wr.heap.size 0 0 0 false false) := fun W' k => by
        have r : RowK (wr.alloc (.cells #[.int .u32 0, .int .u32 0, .int .u32 0, .bool false, .bool false] 32)).drew wr.heap.size 0 0 0 false false := (MapKept.heap_alloc wr (.cells #[.int .u32 0, .int .u32 0, .int .u32 0, .bool false, .bool false] 32)).1
        exact r.kp k nNew
      have HRF : Hid (∀ W', RowK W' wr.heap.size 0 0 0 false false → (W'.cell? ⟨wr.heap.size, 0, none⟩ = some (.int .u32 0) ∧ W'.cell? ⟨wr.heap.size, 1, none⟩ = some (.int .u32 0) ∧ W'.cell? ⟨wr.heap.size, 2, none⟩ = some (.int .u32 0) ∧ W'.cell? ⟨wr.heap.size, 3, none⟩ = some (.bool false) ∧ W'.cell? ⟨wr.heap.size, 4, none⟩ = some (.bool false) ∧ W'.frozen? ⟨wr.heap.size, 0, none⟩ = false ∧ W'.frozen? ⟨wr.heap.size, 1, none⟩ = false ∧ W'.frozen? ⟨wr.heap.size, 2, none⟩ = false ∧ W'.frozen? ⟨wr.heap.size, 3, none⟩ = false ∧ W'.frozen? ⟨wr.heap.size, 4, none⟩ = false)) := fun W' r => ⟨r.c0, r.c1, r.c2, r.c3, r.c4, r.fz 0, r.fz 1, r.fz 2, r.fz 3, r.fz 4⟩
      clear s8
      go_upto_region 8 with fail
      go_region_held3 (fun W => (W.cell? ⟨blk, off + i * 5, none⟩ = some (.int .u32 c) ∧ W.cell? ⟨blk, off + i * 5 + 1, none⟩ = some (.int .u32 l) ∧ W.cell? ⟨blk, off + i * 5 + 2, none⟩ = some (.bool xw) ∧ W.cell? ⟨blk, off + i * 5 + 3, none⟩ = some (.bool us) ∧ W.cell? ⟨blk, off + i * 5 + 4, none⟩ = some (.bool wp)))
        (first | with_reducible exact HS0.out | with_reducible exact HSD.out | with_reducible exact HSK.out _ _ k4 HS0.out | with_reducible exact HSK.out _ _ k4 HSD.out | with_reducible exact HSA.out _ _ (HSK.out _ _ k4 HS0.out) | with_reducible exact HSF.out _ (HSK.out _ _ k4 HSD.out))
        (first
          | (go_at_call 9; refine (HC.out _ (by assumption)).mono ?_; rintro e w4 ⟨rfl, hr4, k4⟩; (first | ((with_reducible have rz := HRZ.out _ k4); obtain ⟨z0, z1, z2, z3, z4, y0, y1, y2, y3, y4⟩ := HRF.out _ rz) | skip)))
      · have k4' : Kp (inRam B 16) wr w4 := ⟨k4.os, k4.tape, k4.output, k4.size, k4.block⟩
        have kA := Kp.alloc noB w4 (.cells #[.int .u32 f, .int .u32 p, .int .u32 q, .bool x, .bool y] 32)
        have rY : RowK (w4.alloc (.cells #[.int .u32 f, .int .u32 p, .int .u32 q, .bool x, .bool y] 32)) w4.heap.size f p q x y := (MapKept.heap_alloc w4 _).1
        have s8 := HSA.out w4 (.cells #[.int .u32 f, .int .u32 p, .int .u32 q, .bool x, .bool y] 32) (HSK.out _ _ k4 HS0.out)
        have hY : wr.heap.size ≤ w4.heap.size := k4'.size
        replace k4' : Kp (inRam B 16) wr (w4.alloc (.cells #[.int .u32 f, .int .u32 p, .int .u32 q, .bool x, .bool y] 32)) := k4'.over kA (fun _ _ f => f.elim)
        replace hr4 : RamAt (w4.alloc (.cells #[.int .u32 f, .int .u32 p, .int .u32 q, .bool x, .bool y] 32)) B M' := hr4.kp kA (fun _ _ f => f)
        clear kA k4
        have nY : ¬ R.has w4.heap.size := fun f => by have := HRl.out _ f; omega
        have nYi : ¬ inRam B 16 w4.heap.size := fun f => by have := f.2; omega
        have hf4 : RefAt (w4.alloc (.cells #[.int .u32 f, .int .u32 p, .int .u32 q, .bool x, .bool y] 32)) R M := hrf.kp k4' (fun j hj f => HAp.out j hj f)
        have kk4 : Kp noB w (w4.alloc (.cells #[.int .u32 f, .int .u32 p, .int .u32 q, .bool x, .bool y] 32)) := kk.over k4' (fun t ht f => by have := HO.out t (.inl f); omega)
        have hbX8 : wr.heap.size ≤ (w4.alloc (.cells #[.int .u32 f, .int .u32 p, .int .u32 q, .bool x, .bool y] 32)).heap.size := k4'.size
        clear HS0 HSD HSK HSA HSF HRZ HRF ha1 ha2 k4' kk hrf hra
        obtain ⟨Y, hYe⟩ : ∃ Y, Y = w4.heap.size := ⟨_, rfl⟩
        obtain ⟨w8, hgen⟩ : ∃ W, W = (w4.alloc (.cells #[.int .u32 f, .int .u32 p, .int .u32 q, .bool x, .bool y] 32)) := ⟨_, rfl⟩
        rw [← hgen] at rY s8 hr4 hf4 kk4 hbX8 ⊢
        rw [← hYe] at rY hY nY nYi ⊢
        clear hYe hgen
        have nNew : ¬ R.has w8.heap.size := fun f => by have := HRl.out _ f; omega
        have HS0 : Hid (w8.drew.cell? ⟨blk, off + i * 5, none⟩ = some (.int .u32 c) ∧ w8.drew.cell? ⟨blk, off + i * 5 + 1, none⟩ = some (.int .u32 l) ∧ w8.drew.cell? ⟨blk, off + i * 5 + 2, none⟩ = some (.bool xw) ∧ w8.drew.cell? ⟨blk, off + i * 5 + 3, none⟩ = some (.bool us) ∧ w8.drew.cell? ⟨blk, off + i * 5 + 4, none⟩ = some (.bool wp)) := s8
        have HSD : Hid ((w8.alloc (.cells #[.int .u32 0, .int .u32 0, .int .u32 0, .bool false, .bool false] 32)).drew.cell? ⟨blk, off + i * 5, none⟩ = some (.int .u32 c) ∧ (w8.alloc (.cells #[.int .u32 0, .int .u32 0, .int .u32 0, .bool false, .bool false] 32)).drew.cell? ⟨blk, off + i * 5 + 1, none⟩ = some (.int .u32 l) ∧ (w8.alloc (.cells #[.int .u32 0, .int .u32 0, .int .u32 0, .bool false, .bool false] 32)).drew.cell? ⟨blk, off + i * 5 + 2, none⟩ = some (.bool xw) ∧ (w8.alloc (.cells #[.int .u32 0, .int .u32 0, .int .u32 0, .bool false, .bool false] 32)).drew.cell? ⟨blk, off + i * 5 + 3, none⟩ = some (.bool us) ∧ (w8.alloc (.cells #[.int .u32 0, .int .u32 0, .int .u32 0, .bool false, .bool false] 32)).drew.cell? ⟨blk, off + i * 5 + 4, none⟩ = some (.bool wp)) := HKS.out noB w8 _ ((Kp.alloc noB w8 (.cells #[.int .u32 0, .int .u32 0, .int .u32 0, .bool false, .bool false] 32)).drew) (fun f => f) s8
        have HSK : Hid (∀ W W', Kp R.has W W' → (W.cell? ⟨blk, off + i * 5, none⟩ = some (.int .u32 c) ∧ W.cell? ⟨blk, off + i * 5 + 1, none⟩ = some (.int .u32 l) ∧ W.cell? ⟨blk, off + i * 5 + 2, none⟩ = some (.bool xw) ∧ W.cell? ⟨blk, off + i * 5 + 3, none⟩ = some (.bool us) ∧ W.cell? ⟨blk, off + i * 5 + 4, none⟩ = some (.bool wp)) → (W'.cell? ⟨blk, off + i * 5, none⟩ = some (.int .u32 c) ∧ W'.cell? ⟨blk, off + i * 5 + 1, none⟩ = some (.int .u32 l) ∧ W'.cell? ⟨blk, off + i * 5 + 2, none⟩ = some (.bool xw) ∧ W'.cell? ⟨blk, off + i * 5 + 3, none⟩ = some (.bool us) ∧ W'.cell? ⟨blk, off + i * 5 + 4, none⟩ = some (.bool wp))) := fun W W' k => HKS.out _ W W' k (fun f => nb (.inr f))
        have HSA : Hid (∀ (W : World) (O : Obj), (W.cell? ⟨blk, off + i * 5, none⟩ = some (.int .u32 c) ∧ W.cell? ⟨blk, off + i * 5 + 1, none⟩ = some (.int .u32 l) ∧ W.cell? ⟨blk, off + i * 5 + 2, none⟩ = some (.bool xw) ∧ W.cell? ⟨blk, off + i * 5 + 3, none⟩ = some (.bool us) ∧ W.cell? ⟨blk, off + i * 5 + 4, none⟩ = some (.bool wp)) → ((W.alloc O).cell? ⟨blk, off + i * 5, none⟩ = some (.int .u32 c) ∧ (W.alloc O).cell? ⟨blk, off + i * 5 + 1, none⟩ = some (.int .u32 l) ∧ (W.alloc O).cell? ⟨blk, off + i * 5 + 2, none⟩ = some (.bool xw) ∧ (W.alloc O).cell? ⟨blk, off + i * 5 + 3, none⟩ = some (.bool us) ∧ (W.alloc O).cell? ⟨blk, off + i * 5 + 4, none⟩ = some (.bool wp))) := fun W O => HKS.out noB W _ (Kp.alloc noB W O) (fun f => f)
        have HSF : Hid (∀ (W : World), (W.cell? ⟨blk, off + i * 5, none⟩ = some (.int .u32 c) ∧ W.cell? ⟨blk, off + i * 5 + 1, none⟩ = some (.int .u32 l) ∧ W.cell? ⟨blk, off + i * 5 + 2, none⟩ = some (.bool xw) ∧ W.cell? ⟨blk, off + i * 5 + 3, none⟩ = some (.bool us) ∧ W.cell? ⟨blk, off + i * 5 + 4, none⟩ = some (.bool wp)) → ((((((W.setCell ⟨w8.heap.size, 0, none⟩ (.int .u32 f)).setCell ⟨w8.heap.size, 1, none⟩ (.int .u32 p)).setCell ⟨w8.heap.size, 2, none⟩ (.int .u32 q)).setCell ⟨w8.heap.size, 3, none⟩ (.bool x)).setCell ⟨w8.heap.size, 4, none⟩ (.bool y)).cell? ⟨blk, off + i * 5, none⟩ = some (.int .u32 c) ∧ (((((W.setCell ⟨w8.heap.size, 0, none⟩ (.int .u32 f)).setCell ⟨w8.heap.size, 1, none⟩ (.int .u32 p)).setCell ⟨w8.heap.size, 2, none⟩ (.int .u32 q)).setCell ⟨w8.heap.size, 3, none⟩ (.bool x)).setCell ⟨w8.heap.size, 4, none⟩ (.bool y)).cell? ⟨blk, off + i * 5 + 1, none⟩ = some (.int .u32 l) ∧ (((((W.setCell ⟨w8.heap.size, 0, none⟩ (.int .u32 f)).setCell ⟨w8.heap.size, 1, none⟩ (.int .u32 p)).setCell ⟨w8.heap.size, 2, none⟩ (.int .u32 q)).setCell ⟨w8.heap.size, 3, none⟩ (.bool x)).setCell ⟨w8.heap.size, 4, none⟩ (.bool y)).cell? ⟨blk, off + i * 5 + 2, none⟩ = some (.bool xw) ∧ (((((W.setCell ⟨w8.heap.size, 0, none⟩ (.int .u32 f)).setCell ⟨w8.heap.size, 1, none⟩ (.int .u32 p)).setCell ⟨w8.heap.size, 2, none⟩ (.int .u32 q)).setCell ⟨w8.heap.size, 3, none⟩ (.bool x)).setCell ⟨w8.heap.size, 4, none⟩ (.bool y)).cell? ⟨blk, off + i * 5 + 3, none⟩ = some (.bool us) ∧ (((((W.setCell ⟨w8.heap.size, 0, none⟩ (.int .u32 f)).setCell ⟨w8.heap.size, 1, none⟩ (.int .u32 p)).setCell ⟨w8.heap.size, 2, none⟩ (.int .u32 q)).setCell ⟨w8.heap.size, 3, none⟩ (.bool x)).setCell ⟨w8.heap.size, 4, none⟩ (.bool y)).cell? ⟨blk, off + i * 5 + 4, none⟩ = some (.bool wp))) := fun W => HKS.out _ W _ (Kp.five_in W w8.heap.size _ _ _ _ _) (by omega)
        have ha1 : RefAt w8.drew R M := hf4.kept (fun _ _ => rfl)
        have ha2 : RefAt (w8.alloc (.cells #[.int .u32 0, .int .u32 0, .int .u32 0, .bool false, .bool false] 32)).drew R M := hf4.kp ((Kp.alloc noB w8 (.cells #[.int .u32 0, .int .u32 0, .int .u32 0, .bool false, .bool false] 32)).drew) (fun _ _ f => f)
        have HRZ : Hid (∀ W', Kp R.has (w8.alloc (.cells #[.int .u32 0, .int .u32 0, .int .u32 0, .bool false, .bool false] 32)).drew W' → RowK W' w8.heap.size 0 0 0 false false) := fun W' k => by
          have r : RowK (w8.alloc (.cells #[.int .u32 0, .int .u32 0, .int .u32 0, .bool false, .bool false] 32)).drew w8.heap.size 0 0 0 false false := (MapKept.heap_alloc w8 (.cells #[.int .u32 0, .int .u32 0, .int .u32 0, .bool false, .bool false] 32)).1
          exact r.kp k nNew
        have HRF : Hid (∀ W', RowK W' w8.heap.size 0 0 0 false false → (W'.cell? ⟨w8.heap.size, 0, none⟩ = some (.int .u32 0) ∧ W'.cell? ⟨w8.heap.size, 1, none⟩ = some (.int .u32 0) ∧ W'.cell? ⟨w8.heap.size, 2, none⟩ = some (.int .u32 0) ∧ W'.cell? ⟨w8.heap.size, 3, none⟩ = some (.bool false) ∧ W'.cell? ⟨w8.heap.size, 4, none⟩ = some (.bool false) ∧ W'.frozen? ⟨w8.heap.size, 0, none⟩ = false ∧ W'.frozen? ⟨w8.heap.size, 1, none⟩ = false ∧ W'.frozen? ⟨w8.heap.size, 2, none⟩ = false ∧ W'.frozen? ⟨w8.heap.size, 3, none⟩ = false ∧ W'.frozen? ⟨w8.heap.size, 4, none⟩ = false)) := fun W' r => ⟨r.c0, r.c1, r.c2, r.c3, r.c4, r.fz 0, r.fz 1, r.fz 2, r.fz 3, r.fz 4⟩
        clear s8
        go_upto_region 9 with fail
        go_region_held3 (fun W => (W.cell? ⟨blk, off + i * 5, none⟩ = some (.int .u32 c) ∧ W.cell? ⟨blk, off + i * 5 + 1, none⟩ = some (.int .u32 l) ∧ W.cell? ⟨blk, off + i * 5 + 2, none⟩ = some (.bool xw) ∧ W.cell? ⟨blk, off + i * 5 + 3, none⟩ = some (.bool us) ∧ W.cell? ⟨blk, off + i * 5 + 4, none⟩ = some (.bool wp)))
          (first | with_reducible exact HS0.out | with_reducible exact HSD.out | with_reducible exact HSK.out _ _ k5 HS0.out | with_reducible exact HSK.out _ _ k5 HSD.out | with_reducible exact HSA.out _ _ (HSK.out _ _ k5 HS0.out) | with_reducible exact HSF.out _ (HSK.out _ _ k5 HSD.out))
          (first
            | (go_at_call 10; refine (HD.out _ (by assumption)).mono ?_; rintro e w5 ⟨rfl, hf5, k5⟩; (first | ((with_reducible have rz := HRZ.out _ k5); obtain ⟨z0, z1, z2, z3, z4, y0, y1, y2, y3, y4⟩ := HRF.out _ rz) | skip)))
        · have k5' : Kp R.has w8 w5 := ⟨k5.os, k5.tape, k5.output, k5.size, k5.block⟩
          have kA := Kp.alloc noB w5 (.cells #[.int .u32 f, .int .u32 p, .int .u32 q, .bool x, .bool y] 32)
          have rZ : RowK (w5.alloc (.cells #[.int .u32 f, .int .u32 p, .int .u32 q, .bool x, .bool y] 32)) w5.heap.size f p q x y := (MapKept.heap_alloc w5 _).1
          replace rY : RowK (w5.alloc (.cells #[.int .u32 f, .int .u32 p, .int .u32 q, .bool x, .bool y] 32)) Y f p q x y := (rY.kp k5' nY).kp kA (fun f => f)
          replace k5' : Kp R.has w8 (w5.alloc (.cells #[.int .u32 f, .int .u32 p, .int .u32 q, .bool x, .bool y] 32)) := k5'.over kA (fun _ _ f => f.elim)
          replace hf5 : RefAt (w5.alloc (.cells #[.int .u32 f, .int .u32 p, .int .u32 q, .bool x, .bool y] 32)) R M' := hf5.kp kA (fun _ _ f => f)
          clear kA k5
          have hr5 : RamAt (w5.alloc (.cells #[.int .u32 f, .int .u32 p, .int .u32 q, .bool x, .bool y] 32)) B M' := hr4.kp k5' (fun j hj f => HAp.out j f (by rw [hM1] at hj; exact hj))
          have kk5 : Kp noB w (w5.alloc (.cells #[.int .u32 f, .int .u32 p, .int .u32 q, .bool x, .bool y] 32)) := kk4.over k5' (fun t ht f => by have := HO.out t (.inr f); omega)
          clear HS0 HSD HSK HSA HSF HRZ HRF ha1 ha2 k5' kk4 hr4 hf4
          obtain ⟨Y2, hYe⟩ : ∃ Y2, Y2 = w5.heap.size := ⟨_, rfl⟩
          obtain ⟨w9, hgen⟩ : ∃ W, W = (w5.alloc (.cells #[.int .u32 f, .int .u32 p, .int .u32 q, .bool x, .bool y] 32)) := ⟨_, rfl⟩
          rw [← hgen] at rZ rY hr5 hf5 kk5 ⊢
          rw [← hYe] at rZ ⊢
          clear hYe hgen nNew nY nYi hY hbX8
          have d0 := rY.c0; have d1 := rY.c1; have d2 := rY.c2; have d3 := rY.c3; have d4 := rY.c4
          have g0 := rZ.c0; have g1 := rZ.c1; have g2 := rZ.c2; have g3 := rZ.c3; have g4 := rZ.c4
          clear rY rZ HKS HC HD
          go_wp2_with fail
          go_roundg (L - j)
          case measure => have := HJ.out; have := HK.out; omega
          case rel => exact ⟨j, M', by rw [HJ.out]; rfl, by have := HJ.out; omega, Nat.le_refl _, ⟨hM1, hM2⟩, ⟨hr5, hf5, fun j hj f => HAp.out j hj (by rw [hM1] at f; exact f)⟩, kk5⟩
        · have k5' : Kp R.has w8 w5 := ((Kp.alloc R.has w8 (.cells #[.int .u32 0, .int .u32 0, .int .u32 0, .bool false, .bool false] 32)).drew).trans k5
          have hYl := rY.lt
          have rZ : RowK (((((w5.setCell ⟨w8.heap.size, 0, none⟩ (.int .u32 f)).setCell ⟨w8.heap.size, 1, none⟩ (.int .u32 p)).setCell ⟨w8.heap.size, 2, none⟩ (.int .u32 q)).setCell ⟨w8.heap.size, 3, none⟩ (.bool x)).setCell ⟨w8.heap.size, 4, none⟩ (.bool y)) w8.heap.size f p q x y := ((((rz.s0 f).s1 p).s2 q).s3 x).s4 y
          replace rY : RowK (((((w5.setCell ⟨w8.heap.size, 0, none⟩ (.int .u32 f)).setCell ⟨w8.heap.size, 1, none⟩ (.int .u32 p)).setCell ⟨w8.heap.size, 2, none⟩ (.int .u32 q)).setCell ⟨w8.heap.size, 3, none⟩ (.bool x)).setCell ⟨w8.heap.size, 4, none⟩ (.bool y)) Y f p q x y := (rY.kp k5' nY).kp (Kp.five_in w5 w8.heap.size _ _ _ _ _) (fun f => by omega)
          replace k5' : Kp R.has w8 (((((w5.setCell ⟨w8.heap.size, 0, none⟩ (.int .u32 f)).setCell ⟨w8.heap.size, 1, none⟩ (.int .u32 p)).setCell ⟨w8.heap.size, 2, none⟩ (.int .u32 q)).setCell ⟨w8.heap.size, 3, none⟩ (.bool x)).setCell ⟨w8.heap.size, 4, none⟩ (.bool y)) := k5'.five (Nat.le_refl _) _ _ _ _ _
          replace hf5 : RefAt (((((w5.setCell ⟨w8.heap.size, 0, none⟩ (.int .u32 f)).setCell ⟨w8.heap.size, 1, none⟩ (.int .u32 p)).setCell ⟨w8.heap.size, 2, none⟩ (.int .u32 q)).setCell ⟨w8.heap.size, 3, none⟩ (.bool x)).setCell ⟨w8.heap.size, 4, none⟩ (.bool y)) R M' := hf5.kp (Kp.five_in w5 w8.heap.size _ _ _ _ _) (fun j hj f => by rw [f] at hj; exact nNew hj)
          clear k5 rz z0 z1 z2 z3 z4 y0 y1 y2 y3 y4 hYl
          have hr5 : RamAt (((((w5.setCell ⟨w8.heap.size, 0, none⟩ (.int .u32 f)).setCell ⟨w8.heap.size, 1, none⟩ (.int .u32 p)).setCell ⟨w8.heap.size, 2, none⟩ (.int .u32 q)).setCell ⟨w8.heap.size, 3, none⟩ (.bool x)).setCell ⟨w8.heap.size, 4, none⟩ (.bool y)) B M' := hr4.kp k5' (fun j hj f => HAp.out j f (by rw [hM1] at hj; exact hj))
          have kk5 : Kp noB w (((((w5.setCell ⟨w8.heap.size, 0, none⟩ (.int .u32 f)).setCell ⟨w8.heap.size, 1, none⟩ (.int .u32 p)).setCell ⟨w8.heap.size, 2, none⟩ (.int .u32 q)).setCell ⟨w8.heap.size, 3, none⟩ (.bool x)).setCell ⟨w8.heap.size, 4, none⟩ (.bool y)) := kk4.over k5' (fun t ht f => by have := HO.out t (.inr f); omega)
          clear HS0 HSD HSK HSA HSF HRZ HRF ha1 ha2 k5' kk4 hr4 hf4
          obtain ⟨Y2, hYe⟩ : ∃ Y2, Y2 = w8.heap.size := ⟨_, rfl⟩
          obtain ⟨w9, hgen⟩ : ∃ W, W = (((((w5.setCell ⟨w8.heap.size, 0, none⟩ (.int .u32 f)).setCell ⟨w8.heap.size, 1, none⟩ (.int .u32 p)).setCell ⟨w8.heap.size, 2, none⟩ (.int .u32 q)).setCell ⟨w8.heap.size, 3, none⟩ (.bool x)).setCell ⟨w8.heap.size, 4, none⟩ (.bool y)) := ⟨_, rfl⟩
          rw [← hgen] at rZ rY hr5 hf5 kk5 ⊢
          rw [← hYe] at rZ ⊢
          clear hYe hgen nNew nY nYi hY hbX8
          have d0 := rY.c0; have d1 := rY.c1; have d2 := rY.c2; have d3 := rY.c3; have d4 := rY.c4
          have g0 := rZ.c0; have g1 := rZ.c1; have g2 := rZ.c2; have g3 := rZ.c3; have g4 := rZ.c4
          clear rY rZ HKS HC HD
          go_wp2_with fail
          go_roundg (L - j)
          case measure => have := HJ.out; have := HK.out; omega
          case rel => exact ⟨j, M', by rw [HJ.out]; rfl, by have := HJ.out; omega, Nat.le_refl _, ⟨hM1, hM2⟩, ⟨hr5, hf5, fun j hj f => HAp.out j hj (by rw [hM1] at f; exact f)⟩, kk5⟩
      · have k4' : Kp (inRam B 16) wr w4 := ((Kp.alloc (inRam B 16) wr (.cells #[.int .u32 0, .int .u32 0, .int .u32 0, .bool false, .bool false] 32)).drew).trans k4
        have rY : RowK (((((w4.setCell ⟨wr.heap.size, 0, none⟩ (.int .u32 f)).setCell ⟨wr.heap.size, 1, none⟩ (.int .u32 p)).setCell ⟨wr.heap.size, 2, none⟩ (.int .u32 q)).setCell ⟨wr.heap.size, 3, none⟩ (.bool x)).setCell ⟨wr.heap.size, 4, none⟩ (.bool y)) wr.heap.size f p q x y := ((((rz.s0 f).s1 p).s2 q).s3 x).s4 y
        have s8 := HSF.out w4 (HSK.out _ _ k4 HSD.out)
        have hY : wr.heap.size ≤ wr.heap.size := Nat.le_refl _
        replace k4' : Kp (inRam B 16) wr (((((w4.setCell ⟨wr.heap.size, 0, none⟩ (.int .u32 f)).setCell ⟨wr.heap.size, 1, none⟩ (.int .u32 p)).setCell ⟨wr.heap.size, 2, none⟩ (.int .u32 q)).setCell ⟨wr.heap.size, 3, none⟩ (.bool x)).setCell ⟨wr.heap.size, 4, none⟩ (.bool y)) := k4'.five (Nat.le_refl _) _ _ _ _ _
        replace hr4 : RamAt (((((w4.setCell ⟨wr.heap.size, 0, none⟩ (.int .u32 f)).setCell ⟨wr.heap.size, 1, none⟩ (.int .u32 p)).setCell ⟨wr.heap.size, 2, none⟩ (.int .u32 q)).setCell ⟨wr.heap.size, 3, none⟩ (.bool x)).setCell ⟨wr.heap.size, 4, none⟩ (.bool y)) B M' := hr4.kp (Kp.five_in w4 wr.heap.size _ _ _ _ _) (fun j hj f => by rw [hM1] at hj; rw [f] at hj; exact nNew hj)
        clear k4 rz z0 z1 z2 z3 z4 y0 y1 y2 y3 y4
        have nY : ¬ R.has wr.heap.size := fun f => by have := HRl.out _ f; omega
        have nYi : ¬ inRam B 16 wr.heap.size := fun f => by have := f.2; omega
        have hf4 : RefAt (((((w4.setCell ⟨wr.heap.size, 0, none⟩ (.int .u32 f)).setCell ⟨wr.heap.size, 1, none⟩ (.int .u32 p)).setCell ⟨wr.heap.size, 2, none⟩ (.int .u32 q)).setCell ⟨wr.heap.size, 3, none⟩ (.bool x)).setCell ⟨wr.heap.size, 4, none⟩ (.bool y)) R M := hrf.kp k4' (fun j hj f => HAp.out j hj f)
        have kk4 : Kp noB w (((((w4.setCell ⟨wr.heap.size, 0, none⟩ (.int .u32 f)).setCell ⟨wr.heap.size, 1, none⟩ (.int .u32 p)).setCell ⟨wr.heap.size, 2, none⟩ (.int .u32 q)).setCell ⟨wr.heap.size, 3, none⟩ (.bool x)).setCell ⟨wr.heap.size, 4, none⟩ (.bool y)) := kk.over k4' (fun t ht f => by have := HO.out t (.inl f); omega)
        have hbX8 : wr.heap.size ≤ (((((w4.setCell ⟨wr.heap.size, 0, none⟩ (.int .u32 f)).setCell ⟨wr.heap.size, 1, none⟩ (.int .u32 p)).setCell ⟨wr.heap.size, 2, none⟩ (.int .u32 q)).setCell ⟨wr.heap.size, 3, none⟩ (.bool x)).setCell ⟨wr.heap.size, 4, none⟩ (.bool y)).heap.size := k4'.size
        clear HS0 HSD HSK HSA HSF HRZ HRF ha1 ha2 k4' kk hrf hra
        obtain ⟨Y, hYe⟩ : ∃ Y, Y = wr.heap.size := ⟨_, rfl⟩
        obtain ⟨w8, hgen⟩ : ∃ W, W = (((((w4.setCell ⟨wr.heap.size, 0, none⟩ (.int .u32 f)).setCell ⟨wr.heap.size, 1, none⟩ (.int .u32 p)).setCell ⟨wr.heap.size, 2, none⟩ (.int .u32 q)).setCell ⟨wr.heap.size, 3, none⟩ (.bool x)).setCell ⟨wr.heap.size, 4, none⟩ (.bool y)) := ⟨_, rfl⟩
        rw [← hgen] at rY s8 hr4 hf4 kk4 hbX8 ⊢
        rw [← hYe] at rY hY nY nYi ⊢
        clear hYe hgen
        have nNew : ¬ R.has w8.heap.size := fun f => by have := HRl.out _ f; omega
        have HS0 : Hid (w8.drew.cell? ⟨blk, off + i * 5, none⟩ = some (.int .u32 c) ∧ w8.drew.cell? ⟨blk, off + i * 5 + 1, none⟩ = some (.int .u32 l) ∧ w8.drew.cell? ⟨blk, off + i * 5 + 2, none⟩ = some (.bool xw) ∧ w8.drew.cell? ⟨blk, off + i * 5 + 3, none⟩ = some (.bool us) ∧ w8.drew.cell? ⟨blk, off + i * 5 + 4, none⟩ = some (.bool wp)) := s8
        have HSD : Hid ((w8.alloc (.cells #[.int .u32 0, .int .u32 0, .int .u32 0, .bool false, .bool false] 32)).drew.cell? ⟨blk, off + i * 5, none⟩ = some (.int .u32 c) ∧ (w8.alloc (.cells #[.int .u32 0, .int .u32 0, .int .u32 0, .bool false, .bool false] 32)).drew.cell? ⟨blk, off + i * 5 + 1, none⟩ = some (.int .u32 l) ∧ (w8.alloc (.cells #[.int .u32 0, .int .u32 0, .int .u32 0, .bool false, .bool false] 32)).drew.cell? ⟨blk, off + i * 5 + 2, none⟩ = some (.bool xw) ∧ (w8.alloc (.cells #[.int .u32 0, .int .u32 0, .int .u32 0, .bool false, .bool false] 32)).drew.cell? ⟨blk, off + i * 5 + 3, none⟩ = some (.bool us) ∧ (w8.alloc (.cells #[.int .u32 0, .int .u32 0, .int .u32 0, .bool false, .bool false] 32)).drew.cell? ⟨blk, off + i * 5 + 4, none⟩ = some (.bool wp)) := HKS.out noB w8 _ ((Kp.alloc noB w8 (.cells #[.int .u32 0, .int .u32 0, .int .u32 0, .bool false, .bool false] 32)).drew) (fun f => f) s8
        have HSK : Hid (∀ W W', Kp R.has W W' → (W.cell? ⟨blk, off + i * 5, none⟩ = some (.int .u32 c) ∧ W.cell? ⟨blk, off + i * 5 + 1, none⟩ = some (.int .u32 l) ∧ W.cell? ⟨blk, off + i * 5 + 2, none⟩ = some (.bool xw) ∧ W.cell? ⟨blk, off + i * 5 + 3, none⟩ = some (.bool us) ∧ W.cell? ⟨blk, off + i * 5 + 4, none⟩ = some (.bool wp)) → (W'.cell? ⟨blk, off + i * 5, none⟩ = some (.int .u32 c) ∧ W'.cell? ⟨blk, off + i * 5 + 1, none⟩ = some (.int .u32 l) ∧ W'.cell? ⟨blk, off + i * 5 + 2, none⟩ = some (.bool xw) ∧ W'.cell? ⟨blk, off + i * 5 + 3, none⟩ = some (.bool us) ∧ W'.cell? ⟨blk, off + i * 5 + 4, none⟩ = some (.bool wp))) := fun W W' k => HKS.out _ W W' k (fun f => nb (.inr f))
        have HSA : Hid (∀ (W : World) (O : Obj), (W.cell? ⟨blk, off + i * 5, none⟩ = some (.int .u32 c) ∧ W.cell? ⟨blk, off + i * 5 + 1, none⟩ = some (.int .u32 l) ∧ W.cell? ⟨blk, off + i * 5 + 2, none⟩ = some (.bool xw) ∧ W.cell? ⟨blk, off + i * 5 + 3, none⟩ = some (.bool us) ∧ W.cell? ⟨blk, off + i * 5 + 4, none⟩ = some (.bool wp)) → ((W.alloc O).cell? ⟨blk, off + i * 5, none⟩ = some (.int .u32 c) ∧ (W.alloc O).cell? ⟨blk, off + i * 5 + 1, none⟩ = some (.int .u32 l) ∧ (W.alloc O).cell? ⟨blk, off + i * 5 + 2, none⟩ = some (.bool xw) ∧ (W.alloc O).cell? ⟨blk, off + i * 5 + 3, none⟩ = some (.bool us) ∧ (W.alloc O).cell? ⟨blk, off + i * 5 + 4, none⟩ = some (.bool wp))) := fun W O => HKS.out noB W _ (Kp.alloc noB W O) (fun f => f)
        have HSF : Hid (∀ (W : World), (W.cell? ⟨blk, off + i * 5, none⟩ = some (.int .u32 c) ∧ W.cell? ⟨blk, off + i * 5 + 1, none⟩ = some (.int .u32 l) ∧ W.cell? ⟨blk, off + i * 5 + 2, none⟩ = some (.bool xw) ∧ W.cell? ⟨blk, off + i * 5 + 3, none⟩ = some (.bool us) ∧ W.cell? ⟨blk, off + i * 5 + 4, none⟩ = some (.bool wp)) → ((((((W.setCell ⟨w8.heap.size, 0, none⟩ (.int .u32 f)).setCell ⟨w8.heap.size, 1, none⟩ (.int .u32 p)).setCell ⟨w8.heap.size, 2, none⟩ (.int .u32 q)).setCell ⟨w8.heap.size, 3, none⟩ (.bool x)).setCell ⟨w8.heap.size, 4, none⟩ (.bool y)).cell? ⟨blk, off + i * 5, none⟩ = some (.int .u32 c) ∧ (((((W.setCell ⟨w8.heap.size, 0, none⟩ (.int .u32 f)).setCell ⟨w8.heap.size, 1, none⟩ (.int .u32 p)).setCell ⟨w8.heap.size, 2, none⟩ (.int .u32 q)).setCell ⟨w8.heap.size, 3, none⟩ (.bool x)).setCell ⟨w8.heap.size, 4, none⟩ (.bool y)).cell? ⟨blk, off + i * 5 + 1, none⟩ = some (.int .u32 l) ∧ (((((W.setCell ⟨w8.heap.size, 0, none⟩ (.int .u32 f)).setCell ⟨w8.heap.size, 1, none⟩ (.int .u32 p)).setCell ⟨w8.heap.size, 2, none⟩ (.int .u32 q)).setCell ⟨w8.heap.size, 3, none⟩ (.bool x)).setCell ⟨w8.heap.size, 4, none⟩ (.bool y)).cell? ⟨blk, off + i * 5 + 2, none⟩ = some (.bool xw) ∧ (((((W.setCell ⟨w8.heap.size, 0, none⟩ (.int .u32 f)).setCell ⟨w8.heap.size, 1, none⟩ (.int .u32 p)).setCell ⟨w8.heap.size, 2, none⟩ (.int .u32 q)).setCell ⟨w8.heap.size, 3, none⟩ (.bool x)).setCell ⟨w8.heap.size, 4, none⟩ (.bool y)).cell? ⟨blk, off + i * 5 + 3, none⟩ = some (.bool us) ∧ (((((W.setCell ⟨w8.heap.size, 0, none⟩ (.int .u32 f)).setCell ⟨w8.heap.size, 1, none⟩ (.int .u32 p)).setCell ⟨w8.heap.size, 2, none⟩ (.int .u32 q)).setCell ⟨w8.heap.size, 3, none⟩ (.bool x)).setCell ⟨w8.heap.size, 4, none⟩ (.bool y)).cell? ⟨blk, off + i * 5 + 4, none⟩ = some (.bool wp))) := fun W => HKS.out _ W _ (Kp.five_in W w8.heap.size _ _ _ _ _) (by omega)
        have ha1 : RefAt w8.drew R M := hf4.kept (fun _ _ => rfl)
        have ha2 : RefAt (w8.alloc (.cells #[.int .u32 0, .int .u32 0, .int .u32 0, .bool false, .bool false] 32)).drew R M := hf4.kp ((Kp.alloc noB w8 (.cells #[.int .u32 0, .int .u32 0, .int .u32 0, .bool false, .bool false] 32)).drew) (fun _ _ f => f)
        have HRZ : Hid (∀ W', Kp R.has (w8.alloc (.cells #[.int .u32 0, .int .u32 0, .int .u32 0, .bool false, .bool false] 32)).drew W' → RowK W' w8.heap.size 0 0 0 false false) := fun W' k => by
          have r : RowK (w8.alloc (.cells #[.int .u32 0, .int .u32 0, .int .u32 0, .bool false, .bool false] 32)).drew w8.heap.size 0 0 0 false false := (MapKept.heap_alloc w8 (.cells #[.int .u32 0, .int .u32 0, .int .u32 0, .bool false, .bool false] 32)).1
          exact r.kp k nNew
        have HRF : Hid (∀ W', RowK W' w8.heap.size 0 0 0 false false → (W'.cell? ⟨w8.heap.size, 0, none⟩ = some (.int .u32 0) ∧ W'.cell? ⟨w8.heap.size, 1, none⟩ = some (.int .u32 0) ∧ W'.cell? ⟨w8.heap.size, 2, none⟩ = some (.int .u32 0) ∧ W'.cell? ⟨w8.heap.size, 3, none⟩ = some (.bool false) ∧ W'.cell? ⟨w8.heap.size, 4, none⟩ = some (.bool false) ∧ W'.frozen? ⟨w8.heap.size, 0, none⟩ = false ∧ W'.frozen? ⟨w8.heap.size, 1, none⟩ = false ∧ W'.frozen? ⟨w8.heap.size, 2, none⟩ = false ∧ W'.frozen? ⟨w8.heap.size, 3, none⟩ = false ∧ W'.frozen? ⟨w8.heap.size, 4, none⟩ = false)) := fun W' r => ⟨r.c0, r.c1, r.c2, r.c3, r.c4, r.fz 0, r.fz 1, r.fz 2, r.fz 3, r.fz 4⟩
        clear s8
        go_upto_region 9 with fail
        go_region_held3 (fun W => (W.cell? ⟨blk, off + i * 5, none⟩ = some (.int .u32 c) ∧ W.cell? ⟨blk, off + i * 5 + 1, none⟩ = some (.int .u32 l) ∧ W.cell? ⟨blk, off + i * 5 + 2, none⟩ = some (.bool xw) ∧ W.cell? ⟨blk, off + i * 5 + 3, none⟩ = some (.bool us) ∧ W.cell? ⟨blk, off + i * 5 + 4, none⟩ = some (.bool wp)))
          (first | with_reducible exact HS0.out | with_reducible exact HSD.out | with_reducible exact HSK.out _ _ k5 HS0.out | with_reducible exact HSK.out _ _ k5 HSD.out | with_reducible exact HSA.out _ _ (HSK.out _ _ k5 HS0.out) | with_reducible exact HSF.out _ (HSK.out _ _ k5 HSD.out))
          (first
            | (go_at_call 10; refine (HD.out _ (by assumption)).mono ?_; rintro e w5 ⟨rfl, hf5, k5⟩; (first | ((with_reducible have rz := HRZ.out _ k5); obtain ⟨z0, z1, z2, z3, z4, y0, y1, y2, y3, y4⟩ := HRF.out _ rz) | skip)))
        · have k5' : Kp R.has w8 w5 := ⟨k5.os, k5.tape, k5.output, k5.size, k5.block⟩
          have kA := Kp.alloc noB w5 (.cells #[.int .u32 f, .int .u32 p, .int .u32 q, .bool x, .bool y] 32)
          have rZ : RowK (w5.alloc (.cells #[.int .u32 f, .int .u32 p, .int .u32 q, .bool x, .bool y] 32)) w5.heap.size f p q x y := (MapKept.heap_alloc w5 _).1
          replace rY : RowK (w5.alloc (.cells #[.int .u32 f, .int .u32 p, .int .u32 q, .bool x, .bool y] 32)) Y f p q x y := (rY.kp k5' nY).kp kA (fun f => f)
          replace k5' : Kp R.has w8 (w5.alloc (.cells #[.int .u32 f, .int .u32 p, .int .u32 q, .bool x, .bool y] 32)) := k5'.over kA (fun _ _ f => f.elim)
          replace hf5 : RefAt (w5.alloc (.cells #[.int .u32 f, .int .u32 p, .int .u32 q, .bool x, .bool y] 32)) R M' := hf5.kp kA (fun _ _ f => f)
          clear kA k5
          have hr5 : RamAt (w5.alloc (.cells #[.int .u32 f, .int .u32 p, .int .u32 q, .bool x, .bool y] 32)) B M' := hr4.kp k5' (fun j hj f => HAp.out j f (by rw [hM1] at hj; exact hj))
          have kk5 : Kp noB w (w5.alloc (.cells #[.int .u32 f, .int .u32 p, .int .u32 q, .bool x, .bool y] 32)) := kk4.over k5' (fun t ht f => by have := HO.out t (.inr f); omega)
          clear HS0 HSD HSK HSA HSF HRZ HRF ha1 ha2 k5' kk4 hr4 hf4
          obtain ⟨Y2, hYe⟩ : ∃ Y2, Y2 = w5.heap.size := ⟨_, rfl⟩
          obtain ⟨w9, hgen⟩ : ∃ W, W = (w5.alloc (.cells #[.int .u32 f, .int .u32 p, .int .u32 q, .bool x, .bool y] 32)) := ⟨_, rfl⟩
          rw [← hgen] at rZ rY hr5 hf5 kk5 ⊢
          rw [← hYe] at rZ ⊢
          clear hYe hgen nNew nY nYi hY hbX8
          have d0 := rY.c0; have d1 := rY.c1; have d2 := rY.c2; have d3 := rY.c3; have d4 := rY.c4
          have g0 := rZ.c0; have g1 := rZ.c1; have g2 := rZ.c2; have g3 := rZ.c3; have g4 := rZ.c4
          clear rY rZ HKS HC HD
          go_wp2_with fail
          go_roundg (L - j)
          case measure => have := HJ.out; have := HK.out; omega
          case rel => exact ⟨j, M', by rw [HJ.out]; rfl, by have := HJ.out; omega, Nat.le_refl _, ⟨hM1, hM2⟩, ⟨hr5, hf5, fun j hj f => HAp.out j hj (by rw [hM1] at f; exact f)⟩, kk5⟩
        · have k5' : Kp R.has w8 w5 := ((Kp.alloc R.has w8 (.cells #[.int .u32 0, .int .u32 0, .int .u32 0, .bool false, .bool false] 32)).drew).trans k5
          have hYl := rY.lt
          have rZ : RowK (((((w5.setCell ⟨w8.heap.size, 0, none⟩ (.int .u32 f)).setCell ⟨w8.heap.size, 1, none⟩ (.int .u32 p)).setCell ⟨w8.heap.size, 2, none⟩ (.int .u32 q)).setCell ⟨w8.heap.size, 3, none⟩ (.bool x)).setCell ⟨w8.heap.size, 4, none⟩ (.bool y)) w8.heap.size f p q x y := ((((rz.s0 f).s1 p).s2 q).s3 x).s4 y
          replace rY : RowK (((((w5.setCell ⟨w8.heap.size, 0, none⟩ (.int .u32 f)).setCell ⟨w8.heap.size, 1, none⟩ (.int .u32 p)).setCell ⟨w8.heap.size, 2, none⟩ (.int .u32 q)).setCell ⟨w8.heap.size, 3, none⟩ (.bool x)).setCell ⟨w8.heap.size, 4, none⟩ (.bool y)) Y f p q x y := (rY.kp k5' nY).kp (Kp.five_in w5 w8.heap.size _ _ _ _ _) (fun f => by omega)
          replace k5' : Kp R.has w8 (((((w5.setCell ⟨w8.heap.size, 0, none⟩ (.int .u32 f)).setCell ⟨w8.heap.size, 1, none⟩ (.int .u32 p)).setCell ⟨w8.heap.size, 2, none⟩ (.int .u32 q)).setCell ⟨w8.heap.size, 3, none⟩ (.bool x)).setCell ⟨w8.heap.size, 4, none⟩ (.bool y)) := k5'.five (Nat.le_refl _) _ _ _ _ _
          replace hf5 : RefAt (((((w5.setCell ⟨w8.heap.size, 0, none⟩ (.int .u32 f)).setCell ⟨w8.heap.size, 1, none⟩ (.int .u32 p)).setCell ⟨w8.heap.size, 2, none⟩ (.int .u32 q)).setCell ⟨w8.heap.size, 3, none⟩ (.bool x)).setCell ⟨w8.heap.size, 4, none⟩ (.bool y)) R M' := hf5.kp (Kp.five_in w5 w8.heap.size _ _ _ _ _) (fun j hj f => by rw [f] at hj; exact nNew hj)
          clear k5 rz z0 z1 z2 z3 z4 y0 y1 y2 y3 y4 hYl
          have hr5 : RamAt (((((w5.setCell ⟨w8.heap.size, 0, none⟩ (.int .u32 f)).setCell ⟨w8.heap.size, 1, none⟩ (.int .u32 p)).setCell ⟨w8.heap.size, 2, none⟩ (.int .u32 q)).setCell ⟨w8.heap.size, 3, none⟩ (.bool x)).setCell ⟨w8.heap.size, 4, none⟩ (.bool y)) B M' := hr4.kp k5' (fun j hj f => HAp.out j f (by rw [hM1] at hj; exact hj))
          have kk5 : Kp noB w (((((w5.setCell ⟨w8.heap.size, 0, none⟩ (.int .u32 f)).setCell ⟨w8.heap.size, 1, none⟩ (.int .u32 p)).setCell ⟨w8.heap.size, 2, none⟩ (.int .u32 q)).setCell ⟨w8.heap.size, 3, none⟩ (.bool x)).setCell ⟨w8.heap.size, 4, none⟩ (.bool y)) := kk4.over k5' (fun t ht f => by have := HO.out t (.inr f); omega)
          clear HS0 HSD HSK HSA HSF HRZ HRF ha1 ha2 k5' kk4 hr4 hf4
          obtain ⟨Y2, hYe⟩ : ∃ Y2, Y2 = w8.heap.size := ⟨_, rfl⟩
          obtain ⟨w9, hgen⟩ : ∃ W, W = (((((w5.setCell ⟨w8.heap.size, 0, none⟩ (.int .u32 f)).setCell ⟨w8.heap.size, 1, none⟩ (.int .u32 p)).setCell ⟨w8.heap.size, 2, none⟩ (.int .u32 q)).setCell ⟨w8.heap.size, 3, none⟩ (.bool x)).setCell ⟨w8.heap.size, 4, none⟩ (.bool y)) := ⟨_, rfl⟩
          rw [← hgen] at rZ rY hr5 hf5 kk5 ⊢
          rw [← hYe] at rZ ⊢
          clear hYe hgen nNew nY nYi hY hbX8
          have d0 := rY.c0; have d1 := rY.c1; have d2 := rY.c2; have d3 := rY.c3; have d4 := rY.c4
          have g0 := rZ.c0; have g1 := rZ.c1; have g2 := rZ.c2; have g3 := rZ.c3; have g4 := rZ.c4
          clear rY rZ HKS HC HD
          go_wp2_with fail
          go_roundg (L - j)
          case measure => have := HJ.out; have := HK.out; omega
          case rel => exact ⟨j, M', by rw [HJ.out]; rfl, by have := HJ.out; omega, Nat.le_refl _, ⟨hM1, hM2⟩, ⟨hr5, hf5, fun j hj f => HAp.out j hj (by rw [hM1] at f; exact f)⟩, kk5⟩
    · clear hik
      have cA := alike_any wr B R M hBo hMn hMc
      go_wp2_with fail
      refine cA.mono ?_; rintro e w4 ⟨rfl, k4⟩
      go_wp2
      go_ret
      exact ⟨rfl, (kk.trans k4).every⟩
end Go.Proofs.Ytoliopjaociijaa
