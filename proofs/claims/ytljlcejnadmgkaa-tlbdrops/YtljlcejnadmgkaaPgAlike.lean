/- Alike: both memories have the same bytes. -/
import Derived.Test.YtljlcejnadmgkaaPgBoth
import Derived.Laws.BytesArg
import Derived.Deep.RegionHeld3
namespace Go.Proofs.Ytljlcejnadmgkaa
open Go.ChangeShapes Go.WideShapes Go.ChangeAt Go.RowKit Go.Maps
set_option linter.unusedVariables false

theorem u8T : Try.prog.underlying 5 = some (.int .u8) := by kernel_rfl
theorem strT : Try.prog.underlying 9 = some .string := by kernel_rfl

def allB (M : Mem) (N : Nat) : List Int := (List.range N).map (fun j => M.byte j)
theorem allB_len (M : Mem) (N : Nat) : (allB M N).length = N := by unfold allB; rw [List.length_map, List.length_range]
theorem allB_get (M : Mem) {N j : Nat} (h : j < N) : (allB M N).getD j 0 = M.byte j := by
  unfold allB
  rw [List.getD_eq_getElem?_getD, List.getElem?_map, List.getElem?_range h]
  rfl

theorem conv_ref {w : World} {R : Rf} {M : Mem} (h : RefAt w R M) {N : Nat} (hN : N = 4096 * M.n) : (convert 55 9 (.slice (some ⟨R.b, 0, none⟩) N N)).run Try.prog w = .ok (.string (strOfNums (allB M N))) w :=
  run_convert_bytes_arg (P := Try.prog) w 55 5 slice8T u8T R.b 0 N N (allB M N) (allB_len M N) (fun i hi => by
    rw [allB_get M hi, Nat.zero_add]
    exact h.cb.cell (by omega)) 9 strT

theorem conv_dump {w : World} {b : Nat} {M : Mem} {N : Nat} {cs : Array Value} (hh : w.heap[b]? = some (.cells cs 5 (0, 0))) (hc : ∀ j, j < N → cs[j]? = some (.int .u8 (M.rd ((0 + j) % 4294967296)))) (hN : N = 4096 * M.n) (hn : M.n = 16) (hcl : M.closed = false) : (convert 55 9 (.slice (some ⟨b, 0, none⟩) N N)).run Try.prog w = .ok (.string (strOfNums (allB M N))) w :=
  run_convert_bytes_arg (P := Try.prog) w 55 5 slice8T u8T b 0 N N (allB M N) (allB_len M N) (fun i hi => by
    rw [allB_get M hi, Nat.zero_add, cell_at hh, hc i hi]
    congr 2
    have e : ((0 : Int) + i) % 4294967296 = i := by omega
    rw [e]
    unfold Mem.rd Mem.place
    rw [hcl]
    simp only [Bool.false_eq_true, false_and, if_false]
    rw [if_pos (by omega), Int.toNat_natCast]) 9 strT

set_option maxRecDepth 100000 in
set_option maxHeartbeats 2000000 in
theorem alike_any (w : World) (B : Nat) (R : Rf) (M : Mem) (h : Both w B R M) (hn : M.n = 16) (hcl : M.closed = false) :
    Calls Try.prog 18 #[.pointer (some ⟨B + 3, 0, none⟩), .pointer (some ⟨R.r, 0, none⟩)] w fun e w' => e = .returned (.bool true) ∧ Kp noB w w' := by
  obtain ⟨N, hN⟩ : ∃ N : Nat, N = 4096 * M.n := ⟨_, rfl⟩
  have HLn : Hid (∀ W, RamAt W B M → Calls Try.prog 21 #[.pointer (some ⟨B + 3, 0, none⟩)] W fun e w' => e = .returned (.int .i64 N) ∧ w' = W) := fun W hW => by
    have := len_ok W B M hW
    rw [show ((4096 * M.n : Int)) = (N : Int) by omega] at this
    exact this
  have HDm : Hid (∀ W, RamAt W B M → Calls Try.prog 20 #[.pointer (some ⟨B + 3, 0, none⟩), .int .u32 0, .int .i64 N] W (DumpPost W B M 0 N)) := fun W hW => dump_ok W B M hW 0 (by omega) (by omega) N (by omega) (by omega)
  obtain ⟨S, hS⟩ : ∃ S, S = strOfNums (allB M N) := ⟨_, rfl⟩
  have HCr : Hid (∀ W, RefAt W R M → (convert 55 9 (.slice (some ⟨R.b, 0, none⟩) N N)).run Try.prog W = .ok (.string S) W) := fun W hW => by rw [hS]; exact conv_ref hW hN
  have HCd : Hid (∀ (W : World) (b : Nat) (cs : Array Value), W.heap[b]? = some (.cells cs 5 (0, 0)) → (∀ j, j < N → cs[j]? = some (.int .u8 (M.rd ((0 + j) % 4294967296)))) → (convert 55 9 (.slice (some ⟨b, 0, none⟩) N N)).run Try.prog W = .ok (.string S) W) := fun W b cs h1 h2 => by rw [hS]; exact conv_dump h1 h2 hN hn hcl
  have HC0 : Hid (∀ W, RefAt W R M → W.cell? ⟨R.r, 0, none⟩ = some (.slice (some ⟨R.b, 0, none⟩) N N)) := fun W hW => by rw [hN]; exact hW.c0
  clear hS hN hn hcl
  have hrD : RamAt w.drew B M := h.ram.drewN 1
  have hfD : RefAt w.drew R M := h.ref.drewN 1
  have hk : Kp noB w w.drew := (Kp.refl _ w).drew
  have hS0 : w.drew.cell? ⟨R.r, 0, none⟩ = some (.slice (some ⟨R.b, 0, none⟩) N N) ∧ (convert 55 9 (.slice (some ⟨R.b, 0, none⟩) N N)).run Try.prog w.drew = .ok (.string S) w.drew := ⟨HC0.out _ hfD, HCr.out _ hfD⟩
  have HS0 : Hid (w.drew.cell? ⟨R.r, 0, none⟩ = some (.slice (some ⟨R.b, 0, none⟩) N N) ∧ (convert 55 9 (.slice (some ⟨R.b, 0, none⟩) N N)).run Try.prog w.drew = .ok (.string S) w.drew) := hS0
  have HS1 : Hid (∀ W, Kp noB w.drew W → W.cell? ⟨R.r, 0, none⟩ = some (.slice (some ⟨R.b, 0, none⟩) N N) ∧ (convert 55 9 (.slice (some ⟨R.b, 0, none⟩) N N)).run Try.prog W = .ok (.string S) W) := fun W kW => ⟨HC0.out _ (hfD.kp kW (fun _ _ f => f)), HCr.out _ (hfD.kp kW (fun _ _ f => f))⟩
  clear hS0 hfD h
  go_enter Try.func18, Try.ntmps18
  go_upto_region 1 with fail
  refine wp_region_held_drew (S := fun W => W.cell? ⟨R.r, 0, none⟩ = some (.slice (some ⟨R.b, 0, none⟩) N N) ∧ (convert 55 9 (.slice (some ⟨R.b, 0, none⟩) N N)).run Try.prog W = .ok (.string S) W) (by kernel_rfl) HS0.out (fun hH => ?_)
  refine wpAnyH_take (i := 0) (v := (.pointer (some ⟨B + 3, 0, none⟩))) rfl (by kernel_rfl) (by kernel_rfl) (by kernel_rfl) (fun _ _ _ h => h) (Or.inl ⟨by rfl, by intro w hS; obtain ⟨s0, s1⟩ := hS; go_simp⟩) hH ?_
  try simp only [Act.put, List.setIfInBounds_toArray]
  refine wpAnyH_take (i := 2) (v := (.pointer (some ⟨R.r, 0, none⟩))) rfl (by kernel_rfl) (by kernel_rfl) (by kernel_rfl) (fun _ _ _ h => h) (Or.inl ⟨by rfl, by intro w hS; obtain ⟨s0, s1⟩ := hS; go_simp⟩) hH ?_
  try simp only [Act.put]
  refine wpAnyH_take (i := 3) (v := (.pointer (some ⟨R.r, 0, none⟩))) rfl (by kernel_rfl) (by kernel_rfl) (by kernel_rfl) (fun _ _ _ h => h) (Or.inl ⟨by rfl, by intro w hS; obtain ⟨s0, s1⟩ := hS; go_simp⟩) hH ?_
  try simp only [Act.put]
  refine wpAnyH_take (i := 4) (v := (.pointer (some ⟨R.r, 0, none⟩))) rfl (by kernel_rfl) (by kernel_rfl) (by kernel_rfl) (fun _ _ _ h => h) (Or.inl ⟨by rfl, by intro w hS; obtain ⟨s0, s1⟩ := hS; go_simp⟩) hH ?_
  try simp only [Act.put]
  refine wpAnyH_take (i := 5) (v := (.slice (some ⟨R.b, 0, none⟩) N N)) rfl (by kernel_rfl) (by kernel_rfl) (by kernel_rfl) (fun _ _ _ h => h) (Or.inl ⟨by rfl, by intro w hS; obtain ⟨s0, s1⟩ := hS; go_simp⟩) hH ?_
  try simp only [Act.put]
  refine wpAnyH_take (i := 6) (v := (.int .i64 N)) rfl (by kernel_rfl) (by kernel_rfl) (by kernel_rfl) (fun _ _ _ h => h) (Or.inl ⟨by rfl, by intro w hS; obtain ⟨s0, s1⟩ := hS; go_simp⟩) hH ?_
  try simp only [Act.put]
  refine wpAnyH_ready (rs := [1]) (by kernel_rfl) (by simp) ?_
  refine AllReadyH.cons rfl (fun K hK => ?_) AllReadyH.nil
  go_simp
  refine (HLn.out _ hrD).mono ?_; rintro e w5 ⟨rfl, hw5⟩; replace hw5 := hw5.symm; subst hw5
  refine hK.out _ _ HS0.out (fun hH2 => ?_)
  clear hK K
  try simp only [Act.put, List.setIfInBounds_toArray, List.set_cons_zero, List.set_cons_succ]
  refine wpAnyH_take (i := 7) (v := (.bool true)) rfl (by kernel_rfl) (by kernel_rfl) (by kernel_rfl) (fun _ _ _ h => h) (Or.inl ⟨by rfl, by intro w hS; obtain ⟨s0, s1⟩ := hS; go_simp⟩) hH ?_
  try simp only [Act.put, List.setIfInBounds_toArray]
  refine wpAnyH_take (i := 8) (v := (.bool true)) rfl (by kernel_rfl) (by kernel_rfl) (by kernel_rfl) (fun _ _ _ h => h) (Or.inl ⟨by rfl, by intro w hS; obtain ⟨s0, s1⟩ := hS; go_simp⟩) hH ?_
  try simp only [Act.put]
  refine wpAnyH_take (i := 9) (v := (.pointer (some ⟨B + 3, 0, none⟩))) rfl (by kernel_rfl) (by kernel_rfl) (by kernel_rfl) (fun _ _ _ h => h) (Or.inl ⟨by rfl, by intro w hS; obtain ⟨s0, s1⟩ := hS; go_simp⟩) hH ?_
  try simp only [Act.put]
  refine wpAnyH_take (i := 10) (v := (.pointer (some ⟨B + 3, 0, none⟩))) rfl (by kernel_rfl) (by kernel_rfl) (by kernel_rfl) (fun _ _ _ h => h) (Or.inl ⟨by rfl, by intro w hS; obtain ⟨s0, s1⟩ := hS; go_simp⟩) hH ?_
  try simp only [Act.put]
  refine wpAnyH_take (i := 14) (v := (.pointer (some ⟨R.r, 0, none⟩))) rfl (by kernel_rfl) (by kernel_rfl) (by kernel_rfl) (fun _ _ _ h => h) (Or.inl ⟨by rfl, by intro w hS; obtain ⟨s0, s1⟩ := hS; go_simp⟩) hH ?_
  try simp only [Act.put]
  refine wpAnyH_take (i := 15) (v := (.pointer (some ⟨R.r, 0, none⟩))) rfl (by kernel_rfl) (by kernel_rfl) (by kernel_rfl) (fun _ _ _ h => h) (Or.inl ⟨by rfl, by intro w hS; obtain ⟨s0, s1⟩ := hS; go_simp⟩) hH ?_
  try simp only [Act.put]
  refine wpAnyH_take (i := 16) (v := (.pointer (some ⟨R.r, 0, none⟩))) rfl (by kernel_rfl) (by kernel_rfl) (by kernel_rfl) (fun _ _ _ h => h) (Or.inl ⟨by rfl, by intro w hS; obtain ⟨s0, s1⟩ := hS; go_simp⟩) hH ?_
  try simp only [Act.put]
  refine wpAnyH_take (i := 17) (v := (.slice (some ⟨R.b, 0, none⟩) N N)) rfl (by kernel_rfl) (by kernel_rfl) (by kernel_rfl) (fun _ _ _ h => h) (Or.inl ⟨by rfl, by intro w hS; obtain ⟨s0, s1⟩ := hS; go_simp⟩) hH ?_
  try simp only [Act.put]
  refine wpAnyH_take (i := 18) (v := (.string S)) rfl (by kernel_rfl) (by kernel_rfl) (by kernel_rfl) (fun _ _ _ h => h) (Or.inl ⟨by rfl, by intro w hS; obtain ⟨s0, s1⟩ := hS; go_simp⟩) hH ?_
  try simp only [Act.put]
  refine wpAnyH_ready (rs := [11]) (by kernel_rfl) (by simp) ?_
  refine AllReadyH.cons rfl (fun K hK => ?_) AllReadyH.nil
  go_simp
  refine (HLn.out _ hrD).mono ?_; rintro e w5 ⟨rfl, hw5⟩; replace hw5 := hw5.symm; subst hw5
  refine hK.out _ _ HS0.out (fun hH3 => ?_)
  clear hK K
  try simp only [Act.put, List.setIfInBounds_toArray, List.set_cons_zero, List.set_cons_succ]
  refine wpAnyH_ready (rs := [12]) (by kernel_rfl) (by simp) ?_
  refine AllReadyH.cons rfl (fun K hK => ?_) AllReadyH.nil
  go_simp
  refine (HDm.out _ hrD).mono ?_; rintro e w6 ⟨cs, rfl, hh, hsz, hcell, k6⟩
  have hcv : (convert 55 9 (.slice (some ⟨w.heap.size, 0, none⟩) N N)).run Try.prog w6 = .ok (.string S) w6 := HCd.out _ _ _ hh hcell
  refine hK.out _ _ (HS1.out _ k6) (fun hH4 => ?_)
  clear hK K
  try simp only [Act.put, List.setIfInBounds_toArray, List.set_cons_zero, List.set_cons_succ]
  refine wpAnyH_ready (rs := [13]) (by kernel_rfl) (by simp) ?_
  refine AllReadyH.cons rfl (fun K hK => ?_) AllReadyH.nil
  go_simp
  refine hK.out _ _ (HS1.out _ k6) (fun hH5 => ?_)
  clear hK K
  try simp only [Act.put, List.setIfInBounds_toArray, List.set_cons_zero, List.set_cons_succ]
  refine wpAnyH_take (i := 19) (v := (.bool true)) rfl (by kernel_rfl) (by kernel_rfl) (by kernel_rfl) (fun _ _ _ h => h) (Or.inl ⟨by rfl, by intro w hS; obtain ⟨s0, s1⟩ := hS; go_simp⟩) hH5 ?_
  try simp only [Act.put, List.setIfInBounds_toArray]
  refine wpAnyH_take (i := 20) (v := (.bool true)) rfl (by kernel_rfl) (by kernel_rfl) (by kernel_rfl) (fun _ _ _ h => h) (Or.inl ⟨by rfl, by intro w hS; obtain ⟨s0, s1⟩ := hS; go_simp⟩) hH5 ?_
  try simp only [Act.put]
  refine wpAnyH_ready (rs := [21]) (by kernel_rfl) (by simp) ?_
  refine AllReadyH.cons rfl (fun K hK => ?_) AllReadyH.nil
  go_simp
  refine hK.out _ _ (HS1.out _ k6) (fun hH6 => ?_)
  clear hK K
  try simp only [Act.put, List.setIfInBounds_toArray, List.set_cons_zero, List.set_cons_succ]
  refine wpAnyH_done (by kernel_rfl) ?_ _
  go_wp2
  go_ret
  exact ⟨rfl, hk.trans k6⟩
end Go.Proofs.Ytljlcejnadmgkaa
