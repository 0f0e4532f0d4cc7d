/- A call of both memories: bytes are told. -/
import Derived.Test.YtankfdcpnhociaaAsked5
namespace Go.Proofs.Ytankfdcpnhociaa
open Go.ChangeShapes Go.WideShapes Go.ChangeAt Go.RowKit Go.Maps Go.Shelf
set_option linter.unusedVariables false

set_option maxRecDepth 100000 in
set_option maxHeartbeats 2000000 in
theorem asked_8_no (w : World) (B : Nat) (R : Rf) (M : Mem) (h : Both w B R M) (a s v : Int) (p : Option Addr) (L c : Nat) (b : Bool) (hL : L ≤ 1) :
    Calls Try.prog 11 #[.pointer (some ⟨B + 3, 0, none⟩), .pointer (some ⟨R.r, 0, none⟩), .agg (opCells 8 a s v (.slice p L c) b)] w (AskPost w B R M.n) := by
  obtain ⟨w1, hw1⟩ : ∃ w1, w1 = w.alloc (.cells (opCells 8 a s v (.slice p L c) b) 35) := ⟨_, rfl⟩
  have k1 : Kp noB w w1 := by rw [hw1]; exact Kp.alloc _ _ _
  have h1 : Both w1 B R M := h.kp k1 (fun _ _ f => f)
  have HB : Hid (AskPost w B R M.n (.returned (.bool true)) w1) := ⟨rfl, M, rfl, h1, k1.mono (fun _ _ f => f.elim)⟩
  have cD := dump_no w1 ⟨B + 3, 0, none⟩ a ((L : Int) - 1) (by omega)
  rw [hw1] at HB cD
  clear hw1 k1 h1
  unfold opCells at *
  have hz : (L : Int) - 1 < 1 := by omega
  go_enter Try.func11, Try.ntmps11
  go_wp2_with fail
  refine cD.mono ?_; rintro e w2 ⟨rfl, rfl⟩
  go_wp2
  go_ret
  exact HB.out

/-- While bytes are held against each other: the first i are done. -/
def DmL (w1 : World) (M : Mem) (a : Int) (D n k : Nat) (s : Value) (wr : World) : Prop :=
  ∃ (i : Nat) (cs : Array Value), s = .int .i64 i ∧ i ≤ n ∧ n - i ≤ k ∧ wr.heap[D]? = some (.cells cs 5 (0, 0)) ∧ cs.size = n ∧ (∀ j, i ≤ j → j < n → cs[j]? = some (.int .u8 (M.rd ((a + j) % 4294967296)))) ∧ Kp noB w1 wr

set_option maxRecDepth 100000 in
set_option maxHeartbeats 4000000 in
theorem asked_8_yes (w : World) (B : Nat) (R : Rf) (M : Mem) (h : Both w B R M) (a s v : Int) (p : Option Addr) (L c n : Nat) (b : Bool) (a0 : 0 ≤ a) (a1 : a < 4294967296) (hL : L = n + 1) (n0 : 1 ≤ n) (n1 : n ≤ 2147483647) :
    Calls Try.prog 11 #[.pointer (some ⟨B + 3, 0, none⟩), .pointer (some ⟨R.r, 0, none⟩), .agg (opCells 8 a s v (.slice p L c) b)] w (AskPost w B R M.n) := by
  subst hL
  obtain ⟨w1, hw1⟩ : ∃ w1, w1 = w.alloc (.cells (opCells 8 a s v (.slice p (n + 1) c) b) 35) := ⟨_, rfl⟩
  have ho : OpAt w1 w.heap.size 8 a s v (.slice p (n + 1) c) b := by rw [hw1]; exact (MapKept.heap_alloc w _).1
  have k1 : Kp noB w w1 := by rw [hw1]; exact Kp.alloc _ _ _
  have h1 : Both w1 B R M := h.kp k1 (fun _ _ f => f)
  have cD := dump_ok w1 B M h1.ram a a0 a1 n n0 n1
  have c1 := ho.c1
  have c4 := ho.c4
  have hsz : w1.heap.size = w.heap.size + 1 := by rw [hw1]; simp
  have HW : Hid (w1 = w.alloc (.cells (opCells 8 a s v (.slice p (n + 1) c) b) 35)) := hw1
  have z1 : ¬ (n : Int) < 1 := by omega
  rw [hw1] at c1 c4 cD
  clear hw1
  unfold opCells at *
  go_enter Try.func11, Try.ntmps11
  go_wp2_with fail
  refine cD.mono ?_
  rintro e w2 ⟨cs, rfl, hD, hcs, hcell, k2⟩
  clear cD
  rw [← HW.out] at hD k2 ⊢
  obtain ⟨D, hDd⟩ : ∃ D, D = w1.heap.size := ⟨_, rfl⟩
  rw [← hDd] at hD ⊢
  have HP : Hid (∀ W, Kp noB w1 W → Both W B R M ∧ W.cell? ⟨w.heap.size, 1, none⟩ = some (.int .u32 a)) := fun W kW => ⟨h1.kp kW (fun _ _ f => f), (ho.kp kW (fun f => f)).c1⟩
  have HD : Hid (D = w1.heap.size) := hDd
  have HB : Hid (∀ W, RefAt W R M → ∀ z, 0 ≤ z → z < 4294967296 → Calls Try.prog 29 #[.pointer (some ⟨R.r, 0, none⟩), .int .u32 z] W fun e w' => e = .returned (.int .u8 (M.rd z)) ∧ Kp noB W w') := fun W hW z z0 z1 => refByte_any W R M hW z z0 z1
  have HF : Hid (∀ W, Kp noB w1 W → AskPost w B R M.n (.returned (.bool true)) W) := fun W kW => ⟨rfl, M, rfl, h1.kp kW (fun _ _ f => f), (k1.over kW (fun _ _ f => f)).mono (fun _ _ f => f.elim)⟩
  clear hDd h1 ho k1 h c1 c4 HW hsz
  go_wp2_with fail
  go_loopg [13] n (DmL w1 M a D n)
  case atStart => exact ⟨0, cs, rfl, Nat.zero_le _, Nat.le_refl _, hD, hcs, fun j _ hj => hcell j hj, k2⟩
  case round =>
    clear hD hcs hcell k2 cs w2
    obtain ⟨i, cs, rfl, hi1, hik, hD, hcs, hcell, kk⟩ := hrel
    obtain ⟨hBo, c1⟩ := HP.out wr kk
    by_cases hlt : (i : Int) < (n : Int)
    · have hi' : i < n := by omega
      have ce := hcell i (Nat.le_refl _) hi'
      rw [← cell_at hD] at ce
      have fe : wr.frozen? ⟨D, i, none⟩ = false := frozen_at hD
      have hDl : D < wr.heap.size := (Array.getElem?_eq_some_iff.1 hD).1
      obtain ⟨z, hz⟩ : ∃ z, z = (a + i) % 4294967296 := ⟨_, rfl⟩
      have z0 : 0 ≤ z := by omega
      have z1 : z < 4294967296 := by omega
      obtain ⟨y, hy⟩ : ∃ y, y = M.rd z := ⟨_, rfl⟩
      have cB : ∀ z', z' = z → Calls Try.prog 29 #[.pointer (some ⟨R.r, 0, none⟩), .int .u32 z'] wr.drew fun e w' => e = .returned (.int .u8 y) ∧ Kp noB wr.drew w' := fun z' e => by
        rw [e, hy]
        exact HB.out wr.drew (hBo.ref.drewN 1) z z0 z1
      have HC : Hid (∀ z', z' = z → Calls Try.prog 29 #[.pointer (some ⟨R.r, 0, none⟩), .int .u32 z'] wr.drew fun e w' => e = .returned (.int .u8 y) ∧ Kp noB wr.drew w') := cB
      rw [← hz, ← hy] at ce
      have HS0 : Hid (wr.drew.cell? ⟨D, i, none⟩ = some (.int .u8 y) ∧ wr.drew.cell? ⟨w.heap.size, 1, none⟩ = some (.int .u32 a)) := ⟨ce, c1⟩
      have HS1 : Hid (∀ W, Kp noB wr.drew W → W.cell? ⟨D, i, none⟩ = some (.int .u8 y) ∧ W.cell? ⟨w.heap.size, 1, none⟩ = some (.int .u32 a)) := fun W kW => ⟨cell_kept HS0.out.1 kW (fun f => f), cell_kept HS0.out.2 kW (fun f => f)⟩
      have HZ : Hid (IntKind.u32.wrap (a + IntKind.u32.wrap (i : Int)) = z) := (by
        rw [hz]
        show (a + (i : Int) % 4294967296) % 4294967296 = (a + i) % 4294967296
        omega : IntKind.u32.wrap (a + IntKind.u32.wrap (i : Int)) = z)
      have HS2 : Hid (∀ W, Kp noB wr.drew W → W.heap[D]? = some (.cells cs 5 (0, 0)) ∧ Kp noB w1 W) := fun W kW => ⟨(kW.block D hDl (fun f => f)).trans hD, (kk.drewN 1).trans kW⟩
      obtain ⟨j, hj⟩ : ∃ j, j = i + 1 := ⟨_, rfl⟩
      have HJ : Hid (j = i + 1) := hj
      have HCS : Hid (∀ j, i ≤ j → j < n → cs[j]? = some (.int .u8 (M.rd ((a + j) % 4294967296)))) := hcell
      have HK : Hid (n - i ≤ gk) := hik
      clear cB hz hy hcell hik HB hj
      go_upto_region 31 with fail
      go_region_held3 (fun W => W.cell? ⟨D, i, none⟩ = some (.int .u8 y) ∧ W.cell? ⟨w.heap.size, 1, none⟩ = some (.int .u32 a))
        (first | exact HS0.out | exact HS1.out _ (by assumption) | assumption)
        (first | (go_at_call 29; refine (HC.out _ HZ.out).mono ?_; rintro e w3 ⟨rfl, k3⟩))
      obtain ⟨hD3, kk3⟩ := HS2.out w3 k3
      have ce3 := (HS1.out w3 k3).1
      have fe3 : w3.frozen? ⟨D, i, none⟩ = false := frozen_at hD3
      go_wp2_with fail
      go_roundg (n - j)
      case measure => have := HJ.out; have := HK.out; omega
      case rel => exact ⟨j, cs.setIfInBounds i (.int .u8 99), by rw [HJ.out]; rfl, by have := HJ.out; omega, Nat.le_refl _, heap_setCell_at hD3 _, by simpa using hcs, fun t ht1 ht2 => by
        have hji := HJ.out
        rw [Array.getElem?_setIfInBounds_ne (by omega)]
        exact HCS.out t (by omega) ht2, kk3.over (Kp.setCell (S := fun q => q = D) w3 rfl _) (fun q hq e => by have := HD.out; omega)⟩
    · clear hik hcell hcs hi1 hD
      have cC := wd_code wr B R M hBo a a0 a1
      have cR := wd_ref wr B R M hBo a a0 a1
      have c1k : ∀ W, Kp noB wr W → W.cell? ⟨w.heap.size, 1, none⟩ = some (.int .u32 a) := fun W kk => cell_kept c1 kk (fun f => f)
      obtain ⟨wd, hwd⟩ : ∃ wd, wd = Wd M a := ⟨_, rfl⟩
      rw [← hwd] at cC cR
      have HC : Hid (∀ W, Kp noB wr W → Calls Try.prog 22 #[.pointer (some ⟨B + 3, 0, none⟩), .int .u32 a] W fun e w' => e = .returned (.bool wd) ∧ Kp noB wr w') := cC
      have HR2 : Hid (∀ W, Kp noB wr W → Calls Try.prog 30 #[.pointer (some ⟨R.r, 0, none⟩), .int .u32 a] W fun e w' => e = .returned (.bool wd) ∧ Kp noB wr w') := cR
      have HK : Hid (∀ W, Kp noB wr W → W.cell? ⟨w.heap.size, 1, none⟩ = some (.int .u32 a)) := c1k
      clear cC cR c1k hwd HB
      go_upto_region 34 with fail
      go_region_with (first
        | (go_at_call 22; refine (HC.out _ (by first | assumption | exact Kp.refl _ _ | exact (Kp.refl _ _).drewN 1)).mono ?_; rintro e w' ⟨rfl, kq⟩; have cq := HK.out _ kq)
        | (go_at_call 30; refine (HR2.out _ (by first | assumption | exact Kp.refl _ _ | exact (Kp.refl _ _).drewN 1)).mono ?_; rintro e w' ⟨rfl, kq2⟩; have cq2 := HK.out _ kq2))
      all_goals
        go_wp2
        go_ret
        exact ⟨ret_bool (by simp), (HF.out _ (kk.trans kq2)).2⟩
end Go.Proofs.Ytankfdcpnhociaa
