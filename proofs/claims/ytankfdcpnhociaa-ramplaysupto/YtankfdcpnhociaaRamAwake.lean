/- awake: the calls at the head of all statements answer as the document fixes. -/
import Derived.Test.YtankfdcpnhociaaRamWrit
import Derived.Test.YtankfdcpnhociaaRamWtd
namespace Go.Proofs.Ytankfdcpnhociaa
open Go.ChangeShapes Go.WideShapes Go.ChangeAt Go.RowKit Go.Maps Go.Shelf
set_option linter.unusedVariables false

def memA : Mem := (mem0 256).lay false 1048575 ((bytesV 4660).take (2 : Int).toNat)
def memB : Mem := { memA with wt := fun y => memA.wt y || decide (y = memA.place 70 - memA.place 70 % 64) }
def memC : Mem := memB.lay false 64 ((bytesV 7).take (1 : Int).toNat)

theorem memA_read : memA.read 1048575 (4 : Int).toNat = 4294967092 := by rfl
theorem memA_place : memA.place 70 < 4096 * memA.n := by decide
theorem memC_nt (x : Int) : memC.nt x = decide (x = 64) := by
  have e : memC.nt x = (false || ((false || decide (x = 64)) && decide (64 ≤ x ∧ x < 128))) := rfl
  rw [e]
  by_cases h : x = 64
  · subst h; rfl
  · simp [h]
theorem memC_wt : memC.asked.wt (memC.asked.place 64 - memC.asked.place 64 % 64) = false := by rfl
theorem memC_n : memC.asked.n = 256 := by rfl

theorem only_one {ts : List Int} (h : ts.Nodup) (hm : ∀ x : Int, x ∈ ts ↔ x = 64) : ts = [64] := by
  match ts, h, hm with
  | [], _, hm => exact absurd ((hm 64).2 rfl) (by simp)
  | [a], _, hm => have := (hm a).1 (by simp); rw [this]
  | a :: b :: r, h, hm =>
    have ha := (hm a).1 (by simp)
    have hb := (hm b).1 (by simp)
    rw [ha, hb] at h
    simp at h

set_option maxRecDepth 100000 in
set_option maxHeartbeats 1000000 in
theorem awake_any (w : World) : Calls Try.prog 8 #[] w fun e w' => e = .returned (.bool true) ∧ Kp noB w w' := by
  have cN := new_ok w 256 (by omega) (by omega)
  go_enter Try.func8, Try.ntmps8
  go_wp2_with fail
  refine cN.mono ?_; rintro e w1 ⟨rfl, h1, s1, b1⟩
  have k1 : Kp noB w w1 := Kp.ofBelow b1 (fun k g1 g2 => by omega)
  have up : ∀ j, j < w.heap.size → inRam w.heap.size 256 j → noB j := fun j hj hi => by have := hi.1; omega
  clear b1 s1 cN
  obtain ⟨B, hB⟩ : ∃ B, B = w.heap.size := ⟨_, rfl⟩
  rw [← hB] at h1 up ⊢
  have cA := write_ok w1 B _ h1 1048575 2 4660 (by omega) (by omega) (by omega) (by omega) rfl
  have HB : Hid (B = w.heap.size) := hB
  clear hB
  go_wp2_with fail
  refine cA.mono ?_; rintro e w2 ⟨rfl, h2, k2⟩
  replace k2 := k1.over k2 (by rw [HB.out] at up ⊢; exact up)
  clear k1 h1 cA
  have cR := read_ok w2 B memA h2 1048575 4 (by omega) (by omega) rfl
  rw [memA_read] at cR
  go_wp2_with fail
  refine cR.mono ?_; rintro e w3 ⟨rfl, k3⟩
  have h3 : RamAt w3 B memA := RamAt.kp h2 k3 (fun _ _ f => f)
  replace k3 := k2.over k3 (fun _ _ f => f)
  clear k2 h2 cR
  have cW := watch_ok w3 B memA h3 70 (by omega) (by omega) memA_place
  go_wp2_with fail
  refine cW.mono ?_; rintro e w4 ⟨rfl, h4, k4⟩
  replace k4 := k3.over k4 (by rw [HB.out] at up ⊢; exact up)
  clear k3 h3 cW
  have cC := write_ok w4 B memB h4 64 1 7 (by omega) (by omega) (by omega) (by omega) rfl
  go_wp2_with fail
  refine cC.mono ?_; rintro e w5 ⟨rfl, h5, k5⟩
  replace k5 := k4.over k5 (by rw [HB.out] at up ⊢; exact up)
  clear k4 h4 cC
  have cT := written_ok sorts_one w5 B memC h5 (fun ss hn hm => by
    have := only_one hn (fun x => by rw [hm, memC_nt]; simp)
    rw [this]; simp)
  go_wp2_with fail
  refine cT.mono ?_; rintro e w6 ⟨v, ts, rfl, hn, hm, hp, hN, h6, k6⟩
  obtain rfl := only_one hn (fun x => by rw [hm, memC_nt]; simp)
  replace k6 := k5.over k6 (by rw [HB.out] at up ⊢; exact up)
  clear k5 h5 cT hn hm hp
  rcases hN with ⟨h, _⟩ | ⟨_, blk, cap, cur, rfl, hbase, hh, g1, g2, g3⟩
  · cases h
  have cell0 : w6.cell? ⟨blk, 0, none⟩ = some (.int .u32 64) := by rw [cell_at hh]; exact g3 0 (by decide)
  have cD := watched_ok w6 B memC.asked h6 64 (by omega) (by omega)
  rw [memC_wt] at cD
  have hlt := (Array.getElem?_eq_some_iff.1 hh).1
  go_wp2_with fail
  refine cD.mono ?_; rintro e w7 ⟨rfl, k7⟩
  have h7 : RamAt w7 B memC.asked := RamAt.kp h6 k7 (fun _ _ f => f)
  have cell7 : w7.cell? ⟨blk, 0, none⟩ = some (.int .u32 64) := (World.cell?_of_block (k7.block blk hlt (fun f => f))).trans cell0
  replace k7 := k6.over k7 (fun _ _ f => f)
  clear k6 h6 cD hh g1 g2 g3 cell0
  have cL := len_ok w7 B memC.asked h7
  rw [memC_n] at cL
  go_wp2_with fail
  refine cL.mono ?_; rintro e w8 ⟨rfl, hw⟩; replace hw := hw.symm; subst hw
  go_wp2
  go_ret
  exact ⟨rfl, k7⟩
end Go.Proofs.Ytankfdcpnhociaa
