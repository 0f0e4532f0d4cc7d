/- The partition of the library's sort at uint32. -/
import Derived.Test.YtankfdcpnhociaaRamPart
namespace Go.Proofs.Ytankfdcpnhociaa
open Go.ChangeShapes Go.WideShapes Go.ChangeAt Go.RowKit Go.Maps Go.Shelf
open Go.Sort (swp ltInt PermIn SortedIn)
set_option linter.unusedVariables false

set_option maxRecDepth 100000 in
set_option maxHeartbeats 8000000 in
theorem part_any (w : World) (blk cap a b pivot : Nat) (d : Array Int) (h : Rw w blk d) (hap : a ≤ pivot) (hpb : pivot < b) (hb : b ≤ d.size) (hs : d.size ≤ 16384) :
    Calls Try.prog 58 #[.slice (some ⟨blk, 0, none⟩) d.size cap, .int .i64 a, .int .i64 b, .int .i64 pivot] w fun e w' =>
      ∃ (mid : Nat) (al : Bool) (d' : Array Int), e = .returned (.tuple #[.int .i64 mid, .bool al]) ∧ a ≤ mid ∧ mid < b ∧ PermIn a b d d' ∧ (∀ t, a ≤ t → t < mid → ltInt d'[t]! d'[mid]! = true) ∧ (∀ t, mid < t → t < b → ltInt d'[t]! d'[mid]! = false) ∧ Rw w' blk d' ∧ Kp (oneB blk) w w' := by
  obtain ⟨L, hL⟩ : ∃ L, L = d.size := ⟨_, rfl⟩
  rw [← hL] at hb hs ⊢
  obtain ⟨dz, hdz⟩ : ∃ dz, dz = swp d a pivot := ⟨_, rfl⟩
  have hz1 : dz.size = L := by rw [hdz, Go.Sort.size_swp]; exact hL.symm
  have hz2 : dz[a]! = d[pivot]! := by
    rw [hdz]
    rcases (by omega : a = pivot ∨ a ≠ pivot) with e | e
    · subst e; rw [Go.Sort.swp_right d a a (by omega)]
    · rw [Go.Sort.swp_left d a pivot (by omega) e]
  have hz3 : PermIn a b d dz := by rw [hdz]; exact Go.Sort.swp_permIn d a b a pivot (by omega) (by omega) (by omega) (by omega) (by omega)
  obtain ⟨G0, hG0⟩ : ∃ G0 : Nat → Int, ∀ t, G0 t = d[t]! := ⟨fun t => d[t]!, fun _ => rfl⟩
  have x1 : w.cell? ⟨blk, a, none⟩ = some (.int .u32 (G0 a)) := by rw [hG0]; exact h.cell (by omega)
  have x2 : w.cell? ⟨blk, pivot, none⟩ = some (.int .u32 (G0 pivot)) := by rw [hG0]; exact h.cell (by omega)
  have y1 := h.frozen a
  have y2 := h.frozen pivot
  have b1 : (a : Int) < (L : Int) := by omega
  have b2 : (pivot : Int) < (L : Int) := by omega
  have SWP : Hid (∀ n, Rw (((w.drewN n).setCell ⟨blk, a, none⟩ (.int .u32 (G0 pivot))).setCell ⟨blk, pivot, none⟩ (.int .u32 (G0 a))) blk dz) := fun n => by rw [hdz]; exact h.swapN hG0 (by omega) (by omega) n
  have HZ : Hid (dz[a]! = d[pivot]! ∧ PermIn a b d dz) := ⟨hz2, hz3⟩
  obtain ⟨P, hP⟩ : ∃ P : Int → Bool, ∀ x, P x = (ltInt x dz[a]!) := ⟨fun x => ltInt x dz[a]!, fun _ => rfl⟩
  have HPP : Hid (∀ x, P x = (ltInt x dz[a]!)) := hP
  clear hdz hz2 hz3 hL hG0 hP
  by_cases hpa : a = pivot
  · subst hpa
    go_enter Try.func58, Try.ntmps58
    go_wp2
    go_region
    all_goals go_wp2_with fail
    have hr := SWP.out (0 + 1)
    have kk : Kp (oneB blk) w (((w.drewN (0 + 1)).setCell ⟨blk, a, none⟩ (.int .u32 (G0 a))).setCell ⟨blk, a, none⟩ (.int .u32 (G0 a))) := kp_swapN (Kp.refl _ _) _ _
    obtain ⟨wz, hwz⟩ : ∃ wz, wz = (((w.drewN (0 + 1)).setCell ⟨blk, a, none⟩ (.int .u32 (G0 a))).setCell ⟨blk, a, none⟩ (.int .u32 (G0 a))) := ⟨_, rfl⟩
    rw [← hwz] at hr kk
    have HWZ : Hid (wz = (((w.drewN (0 + 1)).setCell ⟨blk, a, none⟩ (.int .u32 (G0 a))).setCell ⟨blk, a, none⟩ (.int .u32 (G0 a)))) := hwz
    clear hwz x1 x2 y1 y2
    rw [show ((w.setCell ⟨blk, a, none⟩ (.int .u32 (G0 a))).setCell ⟨blk, a, none⟩ (.int .u32 (G0 a))).drew = wz from HWZ.out.symm]
    clear HWZ SWP
    obtain ⟨i0, hi0⟩ : ∃ i0 : Nat, i0 = a + 1 := ⟨_, rfl⟩
    obtain ⟨j0, hj0⟩ : ∃ j0 : Nat, j0 = b - 1 := ⟨_, rfl⟩
    have ei0 : (a : Int) + 1 = (i0 : Int) := by omega
    have ej0 : (b : Int) - 1 = (j0 : Int) := by omega
    obtain ⟨dk, hdk⟩ : ∃ dk : Array Int, dk = dz := ⟨_, rfl⟩
    have hp : Part P dz a b i0 j0 dk := by rw [hi0, hj0, hdk]; exact part_start P dz a b (by omega)
    have sz : dk.size = L := by rw [hdk]; exact hz1
    replace hr : Rw wz blk dk := by rw [hdk]; exact hr
    clear hi0 hj0 hdk
    have p1 := hp.ai
    have p2 := hp.ij
    have p3 := hp.jb
    go_wp2
    go_loopw [10] (fun vi wr2 => ∃ i : Nat, vi = .int .i64 i ∧ i0 ≤ i ∧ Part P dz a b i j0 dk ∧ Rw wr2 blk dk ∧ Kp (oneB blk) w wr2) (fun vi _ => ((j0 : Int) + 1 - intOf vi).toNat)
    case atStart => exact ⟨i0, by congr 1 <;> omega, Nat.le_refl _, hp, hr, kk⟩
    case round =>
      clear hp hr kk p1 p2 p3
      obtain ⟨i, rfl, bdi, hp, hr, kk⟩ := hrel
      have p1 := hp.ai
      have p2 := hp.ij
      have p3 := hp.jb
      by_cases hij : i ≤ j0
      · have hij' : (i : Int) ≤ (j0 : Int) := by omega
        obtain ⟨G, hG⟩ : ∃ G : Nat → Int, ∀ t, G t = dk[t]! := ⟨fun t => dk[t]!, fun _ => rfl⟩
        have xa : wr.cell? ⟨blk, a, none⟩ = some (.int .u32 (G a)) := by rw [hG]; exact hr.cell (by omega)
        have xi : wr.cell? ⟨blk, i, none⟩ = some (.int .u32 (G i)) := by rw [hG]; exact hr.cell (by omega)
        have ya := hr.frozen a
        have yi := hr.frozen i
        have bi : (i : Int) < (L : Int) := by omega
        have HG : Hid (∀ t, G t = dk[t]!) := hG
        clear hG
        have HH : Hid (G a = dz[a]!) := show _ = _ by rw [HG.out]; exact hp.head
        go_wp2
        go_quiet (first | (go_at_call 56; refine Calls.quiet_of_same (less_any _ _ _)))
        go_wp2
        · have hm : ltInt (G i) (G a) = true := by assumption
          have hup := hp.up hij (show P dk[i]! = true from (by have z := hm; rw [HPP.out, ← HH.out, ← HG.out]; simpa using z))
          go_roundw
          case rel => exact ⟨i + 1, by go_num, by omega, hup, hr.drewN _, kk.drewN _⟩
          case measure => simp [intOf]; omega
        · have hm : ltInt (G i) (G a) = false := by assumption
          have st1 : Hid (j0 < i ∨ P dk[i]! = false) := Or.inr (show P dk[i]! = false from (by have z := hm; rw [HPP.out, ← HH.out, ← HG.out]; simpa using z))
          clear xa xi ya yi HG HH hm bi
          obtain ⟨wq, hwq⟩ : ∃ wq, wq = wr.drewN nq := ⟨_, rfl⟩
          rw [← hwq]
          replace hr : Rw wq blk dk := by rw [hwq]; exact hr.drewN _
          replace kk : Kp (oneB blk) w wq := by rw [hwq]; exact kk.drewN _
          clear hwq
          go_wp2
          go_loopw [11] (fun vj wr2 => ∃ j : Nat, vj = .int .i64 j ∧ j ≤ j0 ∧ Part P dz a b i j dk ∧ Rw wr2 blk dk ∧ Kp (oneB blk) w wr2 ∧ (j < i ∨ P dk[i]! = false)) (fun vj _ => (intOf vj + 1 - (i : Int)).toNat)
          case atStart => exact ⟨j0, by congr 1 <;> omega, Nat.le_refl _, hp, hr, kk, st1.out⟩
          case round =>
            clear hp hr kk p1 p2 p3 st1
            obtain ⟨j, rfl, bdj, hp, hr, kk, st1⟩ := hrel
            have st1 : Hid (j < i ∨ P dk[i]! = false) := st1
            have p1 := hp.ai
            have p2 := hp.ij
            have p3 := hp.jb
            by_cases hij : i ≤ j
            · have hij' : (i : Int) ≤ (j : Int) := by omega
              obtain ⟨G, hG⟩ : ∃ G : Nat → Int, ∀ t, G t = dk[t]! := ⟨fun t => dk[t]!, fun _ => rfl⟩
              have xa : wr.cell? ⟨blk, a, none⟩ = some (.int .u32 (G a)) := by rw [hG]; exact hr.cell (by omega)
              have xi : wr.cell? ⟨blk, j, none⟩ = some (.int .u32 (G j)) := by rw [hG]; exact hr.cell (by omega)
              have ya := hr.frozen a
              have yi := hr.frozen j
              have bi : (j : Int) < (L : Int) := by omega
              have HG : Hid (∀ t, G t = dk[t]!) := hG
              clear hG
              have HH : Hid (G a = dz[a]!) := show _ = _ by rw [HG.out]; exact hp.head
              go_wp2
              go_quiet (first | (go_at_call 56; refine Calls.quiet_of_same (less_any _ _ _)))
              go_wp2
              · have hm : (!ltInt (G j) (G a)) = true := by assumption
                have hup := hp.down hij (show P dk[j]! = false from (by have z := hm; rw [HPP.out, ← HH.out, ← HG.out]; simpa using z))
                go_roundw
                case rel => exact ⟨j - 1, by congr 1; omega, by omega, hup, hr.drewN _, kk.drewN _, by rcases st1.out with z | z; exact Or.inl (by omega); exact Or.inr z⟩
                case measure => simp [intOf]; omega
              · have hm : (!ltInt (G j) (G a)) = false := by assumption
                have st2 : Hid (j < i ∨ P dk[j]! = true) := Or.inr (show P dk[j]! = true from (by have z := hm; rw [HPP.out, ← HH.out, ← HG.out]; simpa using z))
                clear xa xi ya yi HG HH hm bi
                obtain ⟨wq, hwq⟩ : ∃ wq, wq = wr.drewN nq := ⟨_, rfl⟩
                rw [← hwq]
                replace hr : Rw wq blk dk := by rw [hwq]; exact hr.drewN _
                replace kk : Kp (oneB blk) w wq := by rw [hwq]; exact kk.drewN _
                clear hwq
                have hgt' : ¬ (j : Int) < (i : Int) := by omega
                have hsw := hp.swap (by omega) hij (by rcases st1.out with z | z; omega; exact z) (by rcases st2.out with z | z; omega; exact z)
                have hne : ¬ i = j := by omega
                have hne' : ¬ j = i := by omega
                obtain ⟨G, hG⟩ : ∃ G : Nat → Int, ∀ t, G t = dk[t]! := ⟨fun t => dk[t]!, fun _ => rfl⟩
                have xi : wq.cell? ⟨blk, i, none⟩ = some (.int .u32 (G i)) := by rw [hG]; exact hr.cell (by omega)
                have xj : wq.cell? ⟨blk, j, none⟩ = some (.int .u32 (G j)) := by rw [hG]; exact hr.cell (by omega)
                have yi := hr.frozen i
                have yj := hr.frozen j
                have bi : (i : Int) < (L : Int) := by omega
                have bj : (j : Int) < (L : Int) := by omega
                have HG : Hid (∀ t, G t = dk[t]!) := hG
                clear hG
                go_wp2
                go_region
                all_goals go_wp2
                go_loopw [10, 11] (fun vi vj wr => ∃ (i j : Nat) (dk : Array Int), vi = .int .i64 i ∧ vj = .int .i64 j ∧ Part P dz a b i j dk ∧ Rw wr blk dk ∧ Kp (oneB blk) w wr ∧ dk.size = L) (fun vi vj _ => (intOf vj + 1 - intOf vi).toNat)
                case atStart => exact ⟨i + 1, j - 1, swp dk i j, by go_num, by congr 1; omega, hsw.2, hr.swapN HG.out (by omega) (by omega) _, kp_swapN kk _ _, by rw [Go.Sort.size_swp]; exact sz⟩
                case round =>
                  clear hr kk hp sz hsw xi xj yi yj HG bi bj hij hij' hne hne' hgt' st1 st2 p1 p2 p3
                  obtain ⟨i0, j0, dk, rfl, rfl, hp, hr, kk, sz⟩ := hrel
                  have p1 := hp.ai
                  have p2 := hp.ij
                  have p3 := hp.jb
                  go_wp2
                  go_loopw [10] (fun vi wr2 => ∃ i : Nat, vi = .int .i64 i ∧ i0 ≤ i ∧ Part P dz a b i j0 dk ∧ Rw wr2 blk dk ∧ Kp (oneB blk) w wr2) (fun vi _ => ((j0 : Int) + 1 - intOf vi).toNat)
                  case atStart => exact ⟨i0, by congr 1 <;> omega, Nat.le_refl _, hp, hr, kk⟩
                  case round =>
                    clear hp hr kk p1 p2 p3
                    obtain ⟨i, rfl, bdi, hp, hr, kk⟩ := hrel
                    have p1 := hp.ai
                    have p2 := hp.ij
                    have p3 := hp.jb
                    by_cases hij : i ≤ j0
                    · have hij' : (i : Int) ≤ (j0 : Int) := by omega
                      obtain ⟨G, hG⟩ : ∃ G : Nat → Int, ∀ t, G t = dk[t]! := ⟨fun t => dk[t]!, fun _ => rfl⟩
                      have xa : wr.cell? ⟨blk, a, none⟩ = some (.int .u32 (G a)) := by rw [hG]; exact hr.cell (by omega)
                      have xi : wr.cell? ⟨blk, i, none⟩ = some (.int .u32 (G i)) := by rw [hG]; exact hr.cell (by omega)
                      have ya := hr.frozen a
                      have yi := hr.frozen i
                      have bi : (i : Int) < (L : Int) := by omega
                      have HG : Hid (∀ t, G t = dk[t]!) := hG
                      clear hG
                      have HH : Hid (G a = dz[a]!) := show _ = _ by rw [HG.out]; exact hp.head
                      go_wp2
                      go_quiet (first | (go_at_call 56; refine Calls.quiet_of_same (less_any _ _ _)))
                      go_wp2
                      · have hm : ltInt (G i) (G a) = true := by assumption
                        have hup := hp.up hij (show P dk[i]! = true from (by have z := hm; rw [HPP.out, ← HH.out, ← HG.out]; simpa using z))
                        go_roundw
                        case rel => exact ⟨i + 1, by go_num, by omega, hup, hr.drewN _, kk.drewN _⟩
                        case measure => simp [intOf]; omega
                      · have hm : ltInt (G i) (G a) = false := by assumption
                        have st1 : Hid (j0 < i ∨ P dk[i]! = false) := Or.inr (show P dk[i]! = false from (by have z := hm; rw [HPP.out, ← HH.out, ← HG.out]; simpa using z))
                        clear xa xi ya yi HG HH hm bi
                        obtain ⟨wq, hwq⟩ : ∃ wq, wq = wr.drewN nq := ⟨_, rfl⟩
                        rw [← hwq]
                        replace hr : Rw wq blk dk := by rw [hwq]; exact hr.drewN _
                        replace kk : Kp (oneB blk) w wq := by rw [hwq]; exact kk.drewN _
                        clear hwq
                        go_wp2
                        go_loopw [11] (fun vj wr2 => ∃ j : Nat, vj = .int .i64 j ∧ j ≤ j0 ∧ Part P dz a b i j dk ∧ Rw wr2 blk dk ∧ Kp (oneB blk) w wr2 ∧ (j < i ∨ P dk[i]! = false)) (fun vj _ => (intOf vj + 1 - (i : Int)).toNat)
                        case atStart => exact ⟨j0, by congr 1 <;> omega, Nat.le_refl _, hp, hr, kk, st1.out⟩
                        case round =>
                          clear hp hr kk p1 p2 p3 st1
                          obtain ⟨j, rfl, bdj, hp, hr, kk, st1⟩ := hrel
                          have st1 : Hid (j < i ∨ P dk[i]! = false) := st1
                          have p1 := hp.ai
                          have p2 := hp.ij
                          have p3 := hp.jb
                          by_cases hij : i ≤ j
                          · have hij' : (i : Int) ≤ (j : Int) := by omega
                            obtain ⟨G, hG⟩ : ∃ G : Nat → Int, ∀ t, G t = dk[t]! := ⟨fun t => dk[t]!, fun _ => rfl⟩
                            have xa : wr.cell? ⟨blk, a, none⟩ = some (.int .u32 (G a)) := by rw [hG]; exact hr.cell (by omega)
                            have xi : wr.cell? ⟨blk, j, none⟩ = some (.int .u32 (G j)) := by rw [hG]; exact hr.cell (by omega)
                            have ya := hr.frozen a
                            have yi := hr.frozen j
                            have bi : (j : Int) < (L : Int) := by omega
                            have HG : Hid (∀ t, G t = dk[t]!) := hG
                            clear hG
                            have HH : Hid (G a = dz[a]!) := show _ = _ by rw [HG.out]; exact hp.head
                            go_wp2
                            go_quiet (first | (go_at_call 56; refine Calls.quiet_of_same (less_any _ _ _)))
                            go_wp2
                            · have hm : (!ltInt (G j) (G a)) = true := by assumption
                              have hup := hp.down hij (show P dk[j]! = false from (by have z := hm; rw [HPP.out, ← HH.out, ← HG.out]; simpa using z))
                              go_roundw
                              case rel => exact ⟨j - 1, by congr 1; omega, by omega, hup, hr.drewN _, kk.drewN _, by rcases st1.out with z | z; exact Or.inl (by omega); exact Or.inr z⟩
                              case measure => simp [intOf]; omega
                            · have hm : (!ltInt (G j) (G a)) = false := by assumption
                              have st2 : Hid (j < i ∨ P dk[j]! = true) := Or.inr (show P dk[j]! = true from (by have z := hm; rw [HPP.out, ← HH.out, ← HG.out]; simpa using z))
                              clear xa xi ya yi HG HH hm bi
                              obtain ⟨wq, hwq⟩ : ∃ wq, wq = wr.drewN nq := ⟨_, rfl⟩
                              rw [← hwq]
                              replace hr : Rw wq blk dk := by rw [hwq]; exact hr.drewN _
                              replace kk : Kp (oneB blk) w wq := by rw [hwq]; exact kk.drewN _
                              clear hwq
                              have hgt' : ¬ (j : Int) < (i : Int) := by omega
                              have hsw := hp.swap (by omega) hij (by rcases st1.out with z | z; omega; exact z) (by rcases st2.out with z | z; omega; exact z)
                              have hne : ¬ i = j := by omega
                              have hne' : ¬ j = i := by omega
                              obtain ⟨G, hG⟩ : ∃ G : Nat → Int, ∀ t, G t = dk[t]! := ⟨fun t => dk[t]!, fun _ => rfl⟩
                              have xi : wq.cell? ⟨blk, i, none⟩ = some (.int .u32 (G i)) := by rw [hG]; exact hr.cell (by omega)
                              have xj : wq.cell? ⟨blk, j, none⟩ = some (.int .u32 (G j)) := by rw [hG]; exact hr.cell (by omega)
                              have yi := hr.frozen i
                              have yj := hr.frozen j
                              have bi : (i : Int) < (L : Int) := by omega
                              have bj : (j : Int) < (L : Int) := by omega
                              have HG : Hid (∀ t, G t = dk[t]!) := hG
                              clear hG
                              go_wp2
                              go_region
                              all_goals go_wp2
                              go_roundw
                              case rel => exact ⟨i + 1, j - 1, swp dk i j, by go_num, by congr 1; omega, hsw.2, hr.swapN HG.out (by omega) (by omega) _, kp_swapN kk _ _, by rw [Go.Sort.size_swp]; exact sz⟩
                              case measure => simp [intOf]; omega
                          · have hij' : ¬ (i : Int) ≤ (j : Int) := by omega
                            have st2 : Hid (j < i ∨ P dk[j]! = true) := Or.inl (by omega)
                            go_wp2
                            go_quiet (fail)
                            go_wp2
                            obtain ⟨wq, hwq⟩ : ∃ wq, wq = wr.drewN nq := ⟨_, rfl⟩
                            rw [← hwq]
                            replace hr : Rw wq blk dk := by rw [hwq]; exact hr.drewN _
                            replace kk : Kp (oneB blk) w wq := by rw [hwq]; exact kk.drewN _
                            clear hwq
                            have hgt' : (j : Int) < (i : Int) := by omega
                            have hf := hp.fin HPP.out (by omega) (by omega)
                            obtain ⟨G, hG⟩ : ∃ G : Nat → Int, ∀ t, G t = dk[t]! := ⟨fun t => dk[t]!, fun _ => rfl⟩
                            have xa : wq.cell? ⟨blk, a, none⟩ = some (.int .u32 (G a)) := by rw [hG]; exact hr.cell (by omega)
                            have xj : wq.cell? ⟨blk, j, none⟩ = some (.int .u32 (G j)) := by rw [hG]; exact hr.cell (by omega)
                            have ya := hr.frozen a
                            have yj := hr.frozen j
                            have bj : (j : Int) < (L : Int) := by omega
                            have hsw := fun n => hr.swapN (i := j) (j := a) hG (by omega) (by omega) n
                            have hks := fun n => kp_swapN (i := j) (j := a) (n := n) kk (.int .u32 (G a)) (.int .u32 (G j))
                            have HSW : Hid (∀ n, Rw (((wq.drewN n).setCell ⟨blk, j, none⟩ (.int .u32 (G a))).setCell ⟨blk, a, none⟩ (.int .u32 (G j))) blk (swp dk j a)) := hsw
                            have HKS : Hid (∀ n, Kp (oneB blk) w (((wq.drewN n).setCell ⟨blk, j, none⟩ (.int .u32 (G a))).setCell ⟨blk, a, none⟩ (.int .u32 (G j)))) := hks
                            have HF : Hid (a ≤ j ∧ PermIn a b dz (swp dk j a) ∧ (∀ t, a ≤ t → t < j → ltInt (swp dk j a)[t]! (swp dk j a)[j]! = true) ∧ (∀ t, j < t → t < b → ltInt (swp dk j a)[t]! (swp dk j a)[j]! = false)) := hf
                            clear hG hsw hks hf
                            by_cases hja : j = a
                            · have hja' : ¬ a < j := by omega
                              rw [hja] at xj yj bj HSW HKS
                              have hja2 : (j : Int) = (a : Int) := by omega
                              go_wp2
                              go_region
                              all_goals go_wp2
                              all_goals exact bodyPost_ret (v := .tuple #[.int .i64 a, .bool false]) (by simp [results, Try.results58, go_sem] <;> omega) rfl ⟨a, false, swp dk a a, rfl, by omega, by omega, Go.Sort.permIn_trans _ _ _ _ _ HZ.out.2 (hja ▸ HF.out.2.1), hja ▸ HF.out.2.2.1, hja ▸ HF.out.2.2.2, HSW.out _, HKS.out _⟩
                            · have hne : ¬ a = j := fun g => hja g.symm
                              go_wp2
                              go_region
                              all_goals go_wp2
                              all_goals exact bodyPost_ret (v := .tuple #[.int .i64 j, .bool false]) (by simp [results, Try.results58, go_sem]) rfl ⟨j, false, swp dk j a, rfl, by omega, by omega, Go.Sort.permIn_trans _ _ _ _ _ HZ.out.2 (HF.out.2.1), HF.out.2.2.1, HF.out.2.2.2, HSW.out _, HKS.out _⟩
                    · have hij' : ¬ (i : Int) ≤ (j0 : Int) := by omega
                      have st1 : Hid (j0 < i ∨ P dk[i]! = false) := Or.inl (by omega)
                      go_wp2
                      go_quiet (fail)
                      go_wp2
                      obtain ⟨wq, hwq⟩ : ∃ wq, wq = wr.drewN nq := ⟨_, rfl⟩
                      rw [← hwq]
                      replace hr : Rw wq blk dk := by rw [hwq]; exact hr.drewN _
                      replace kk : Kp (oneB blk) w wq := by rw [hwq]; exact kk.drewN _
                      clear hwq
                      go_wp2
                      go_loopw [11] (fun vj wr2 => ∃ j : Nat, vj = .int .i64 j ∧ j ≤ j0 ∧ Part P dz a b i j dk ∧ Rw wr2 blk dk ∧ Kp (oneB blk) w wr2 ∧ (j < i ∨ P dk[i]! = false)) (fun vj _ => (intOf vj + 1 - (i : Int)).toNat)
                      case atStart => exact ⟨j0, by congr 1 <;> omega, Nat.le_refl _, hp, hr, kk, st1.out⟩
                      case round =>
                        clear hp hr kk p1 p2 p3 st1
                        obtain ⟨j, rfl, bdj, hp, hr, kk, st1⟩ := hrel
                        have st1 : Hid (j < i ∨ P dk[i]! = false) := st1
                        have p1 := hp.ai
                        have p2 := hp.ij
                        have p3 := hp.jb
                        by_cases hij : i ≤ j
                        · have hij' : (i : Int) ≤ (j : Int) := by omega
                          exfalso; omega
                        · have hij' : ¬ (i : Int) ≤ (j : Int) := by omega
                          have st2 : Hid (j < i ∨ P dk[j]! = true) := Or.inl (by omega)
                          go_wp2
                          go_quiet (fail)
                          go_wp2
                          obtain ⟨wq, hwq⟩ : ∃ wq, wq = wr.drewN nq := ⟨_, rfl⟩
                          rw [← hwq]
                          replace hr : Rw wq blk dk := by rw [hwq]; exact hr.drewN _
                          replace kk : Kp (oneB blk) w wq := by rw [hwq]; exact kk.drewN _
                          clear hwq
                          have hgt' : (j : Int) < (i : Int) := by omega
                          have hf := hp.fin HPP.out (by omega) (by omega)
                          obtain ⟨G, hG⟩ : ∃ G : Nat → Int, ∀ t, G t = dk[t]! := ⟨fun t => dk[t]!, fun _ => rfl⟩
                          have xa : wq.cell? ⟨blk, a, none⟩ = some (.int .u32 (G a)) := by rw [hG]; exact hr.cell (by omega)
                          have xj : wq.cell? ⟨blk, j, none⟩ = some (.int .u32 (G j)) := by rw [hG]; exact hr.cell (by omega)
                          have ya := hr.frozen a
                          have yj := hr.frozen j
                          have bj : (j : Int) < (L : Int) := by omega
                          have hsw := fun n => hr.swapN (i := j) (j := a) hG (by omega) (by omega) n
                          have hks := fun n => kp_swapN (i := j) (j := a) (n := n) kk (.int .u32 (G a)) (.int .u32 (G j))
                          have HSW : Hid (∀ n, Rw (((wq.drewN n).setCell ⟨blk, j, none⟩ (.int .u32 (G a))).setCell ⟨blk, a, none⟩ (.int .u32 (G j))) blk (swp dk j a)) := hsw
                          have HKS : Hid (∀ n, Kp (oneB blk) w (((wq.drewN n).setCell ⟨blk, j, none⟩ (.int .u32 (G a))).setCell ⟨blk, a, none⟩ (.int .u32 (G j)))) := hks
                          have HF : Hid (a ≤ j ∧ PermIn a b dz (swp dk j a) ∧ (∀ t, a ≤ t → t < j → ltInt (swp dk j a)[t]! (swp dk j a)[j]! = true) ∧ (∀ t, j < t → t < b → ltInt (swp dk j a)[t]! (swp dk j a)[j]! = false)) := hf
                          clear hG hsw hks hf
                          by_cases hja : j = a
                          · have hja' : ¬ a < j := by omega
                            rw [hja] at xj yj bj HSW HKS
                            have hja2 : (j : Int) = (a : Int) := by omega
                            go_wp2
                            go_region
                            all_goals go_wp2
                            all_goals exact bodyPost_ret (v := .tuple #[.int .i64 a, .bool false]) (by simp [results, Try.results58, go_sem] <;> omega) rfl ⟨a, false, swp dk a a, rfl, by omega, by omega, Go.Sort.permIn_trans _ _ _ _ _ HZ.out.2 (hja ▸ HF.out.2.1), hja ▸ HF.out.2.2.1, hja ▸ HF.out.2.2.2, HSW.out _, HKS.out _⟩
                          · have hne : ¬ a = j := fun g => hja g.symm
                            go_wp2
                            go_region
                            all_goals go_wp2
                            all_goals exact bodyPost_ret (v := .tuple #[.int .i64 j, .bool false]) (by simp [results, Try.results58, go_sem]) rfl ⟨j, false, swp dk j a, rfl, by omega, by omega, Go.Sort.permIn_trans _ _ _ _ _ HZ.out.2 (HF.out.2.1), HF.out.2.2.1, HF.out.2.2.2, HSW.out _, HKS.out _⟩
            · have hij' : ¬ (i : Int) ≤ (j : Int) := by omega
              have st2 : Hid (j < i ∨ P dk[j]! = true) := Or.inl (by omega)
              go_wp2
              go_quiet (fail)
              go_wp2
              obtain ⟨wq, hwq⟩ : ∃ wq, wq = wr.drewN nq := ⟨_, rfl⟩
              rw [← hwq]
              replace hr : Rw wq blk dk := by rw [hwq]; exact hr.drewN _
              replace kk : Kp (oneB blk) w wq := by rw [hwq]; exact kk.drewN _
              clear hwq
              have hgt' : (j : Int) < (i : Int) := by omega
              have hf := hp.fin HPP.out (by omega) (by omega)
              obtain ⟨G, hG⟩ : ∃ G : Nat → Int, ∀ t, G t = dk[t]! := ⟨fun t => dk[t]!, fun _ => rfl⟩
              have xa : wq.cell? ⟨blk, a, none⟩ = some (.int .u32 (G a)) := by rw [hG]; exact hr.cell (by omega)
              have xj : wq.cell? ⟨blk, j, none⟩ = some (.int .u32 (G j)) := by rw [hG]; exact hr.cell (by omega)
              have ya := hr.frozen a
              have yj := hr.frozen j
              have bj : (j : Int) < (L : Int) := by omega
              have hsw := fun n => hr.swapN (i := j) (j := a) hG (by omega) (by omega) n
              have hks := fun n => kp_swapN (i := j) (j := a) (n := n) kk (.int .u32 (G a)) (.int .u32 (G j))
              have HSW : Hid (∀ n, Rw (((wq.drewN n).setCell ⟨blk, j, none⟩ (.int .u32 (G a))).setCell ⟨blk, a, none⟩ (.int .u32 (G j))) blk (swp dk j a)) := hsw
              have HKS : Hid (∀ n, Kp (oneB blk) w (((wq.drewN n).setCell ⟨blk, j, none⟩ (.int .u32 (G a))).setCell ⟨blk, a, none⟩ (.int .u32 (G j)))) := hks
              have HF : Hid (a ≤ j ∧ PermIn a b dz (swp dk j a) ∧ (∀ t, a ≤ t → t < j → ltInt (swp dk j a)[t]! (swp dk j a)[j]! = true) ∧ (∀ t, j < t → t < b → ltInt (swp dk j a)[t]! (swp dk j a)[j]! = false)) := hf
              clear hG hsw hks hf
              by_cases hja : j = a
              · have hja' : ¬ a < j := by omega
                rw [hja] at xj yj bj HSW HKS
                have hja2 : (j : Int) = (a : Int) := by omega
                go_wp2
                go_region
                all_goals go_wp2
                all_goals exact bodyPost_ret (v := .tuple #[.int .i64 a, .bool true]) (by simp [results, Try.results58, go_sem] <;> omega) rfl ⟨a, true, swp dk a a, rfl, by omega, by omega, Go.Sort.permIn_trans _ _ _ _ _ HZ.out.2 (hja ▸ HF.out.2.1), hja ▸ HF.out.2.2.1, hja ▸ HF.out.2.2.2, HSW.out _, HKS.out _⟩
              · have hne : ¬ a = j := fun g => hja g.symm
                go_wp2
                go_region
                all_goals go_wp2
                all_goals exact bodyPost_ret (v := .tuple #[.int .i64 j, .bool true]) (by simp [results, Try.results58, go_sem]) rfl ⟨j, true, swp dk j a, rfl, by omega, by omega, Go.Sort.permIn_trans _ _ _ _ _ HZ.out.2 (HF.out.2.1), HF.out.2.2.1, HF.out.2.2.2, HSW.out _, HKS.out _⟩
      · have hij' : ¬ (i : Int) ≤ (j0 : Int) := by omega
        have st1 : Hid (j0 < i ∨ P dk[i]! = false) := Or.inl (by omega)
        go_wp2
        go_quiet (fail)
        go_wp2
        obtain ⟨wq, hwq⟩ : ∃ wq, wq = wr.drewN nq := ⟨_, rfl⟩
        rw [← hwq]
        replace hr : Rw wq blk dk := by rw [hwq]; exact hr.drewN _
        replace kk : Kp (oneB blk) w wq := by rw [hwq]; exact kk.drewN _
        clear hwq
        go_wp2
        go_loopw [11] (fun vj wr2 => ∃ j : Nat, vj = .int .i64 j ∧ j ≤ j0 ∧ Part P dz a b i j dk ∧ Rw wr2 blk dk ∧ Kp (oneB blk) w wr2 ∧ (j < i ∨ P dk[i]! = false)) (fun vj _ => (intOf vj + 1 - (i : Int)).toNat)
        case atStart => exact ⟨j0, by congr 1 <;> omega, Nat.le_refl _, hp, hr, kk, st1.out⟩
        case round =>
          clear hp hr kk p1 p2 p3 st1
          obtain ⟨j, rfl, bdj, hp, hr, kk, st1⟩ := hrel
          have st1 : Hid (j < i ∨ P dk[i]! = false) := st1
          have p1 := hp.ai
          have p2 := hp.ij
          have p3 := hp.jb
          by_cases hij : i ≤ j
          · have hij' : (i : Int) ≤ (j : Int) := by omega
            exfalso; omega
          · have hij' : ¬ (i : Int) ≤ (j : Int) := by omega
            have st2 : Hid (j < i ∨ P dk[j]! = true) := Or.inl (by omega)
            go_wp2
            go_quiet (fail)
            go_wp2
            obtain ⟨wq, hwq⟩ : ∃ wq, wq = wr.drewN nq := ⟨_, rfl⟩
            rw [← hwq]
            replace hr : Rw wq blk dk := by rw [hwq]; exact hr.drewN _
            replace kk : Kp (oneB blk) w wq := by rw [hwq]; exact kk.drewN _
            clear hwq
            have hgt' : (j : Int) < (i : Int) := by omega
            have hf := hp.fin HPP.out (by omega) (by omega)
            obtain ⟨G, hG⟩ : ∃ G : Nat → Int, ∀ t, G t = dk[t]! := ⟨fun t => dk[t]!, fun _ => rfl⟩
            have xa : wq.cell? ⟨blk, a, none⟩ = some (.int .u32 (G a)) := by rw [hG]; exact hr.cell (by omega)
            have xj : wq.cell? ⟨blk, j, none⟩ = some (.int .u32 (G j)) := by rw [hG]; exact hr.cell (by omega)
            have ya := hr.frozen a
            have yj := hr.frozen j
            have bj : (j : Int) < (L : Int) := by omega
            have hsw := fun n => hr.swapN (i := j) (j := a) hG (by omega) (by omega) n
            have hks := fun n => kp_swapN (i := j) (j := a) (n := n) kk (.int .u32 (G a)) (.int .u32 (G j))
            have HSW : Hid (∀ n, Rw (((wq.drewN n).setCell ⟨blk, j, none⟩ (.int .u32 (G a))).setCell ⟨blk, a, none⟩ (.int .u32 (G j))) blk (swp dk j a)) := hsw
            have HKS : Hid (∀ n, Kp (oneB blk) w (((wq.drewN n).setCell ⟨blk, j, none⟩ (.int .u32 (G a))).setCell ⟨blk, a, none⟩ (.int .u32 (G j)))) := hks
            have HF : Hid (a ≤ j ∧ PermIn a b dz (swp dk j a) ∧ (∀ t, a ≤ t → t < j → ltInt (swp dk j a)[t]! (swp dk j a)[j]! = true) ∧ (∀ t, j < t → t < b → ltInt (swp dk j a)[t]! (swp dk j a)[j]! = false)) := hf
            clear hG hsw hks hf
            by_cases hja : j = a
            · have hja' : ¬ a < j := by omega
              rw [hja] at xj yj bj HSW HKS
              have hja2 : (j : Int) = (a : Int) := by omega
              go_wp2
              go_region
              all_goals go_wp2
              all_goals exact bodyPost_ret (v := .tuple #[.int .i64 a, .bool true]) (by simp [results, Try.results58, go_sem] <;> omega) rfl ⟨a, true, swp dk a a, rfl, by omega, by omega, Go.Sort.permIn_trans _ _ _ _ _ HZ.out.2 (hja ▸ HF.out.2.1), hja ▸ HF.out.2.2.1, hja ▸ HF.out.2.2.2, HSW.out _, HKS.out _⟩
            · have hne : ¬ a = j := fun g => hja g.symm
              go_wp2
              go_region
              all_goals go_wp2
              all_goals exact bodyPost_ret (v := .tuple #[.int .i64 j, .bool true]) (by simp [results, Try.results58, go_sem]) rfl ⟨j, true, swp dk j a, rfl, by omega, by omega, Go.Sort.permIn_trans _ _ _ _ _ HZ.out.2 (HF.out.2.1), HF.out.2.2.1, HF.out.2.2.2, HSW.out _, HKS.out _⟩
  · have hne : ¬ pivot = a := fun g => hpa g.symm
    go_enter Try.func58, Try.ntmps58
    go_wp2
    go_region
    all_goals go_wp2_with fail
    have hr := SWP.out (0 + 1)
    have kk : Kp (oneB blk) w (((w.drewN (0 + 1)).setCell ⟨blk, a, none⟩ (.int .u32 (G0 pivot))).setCell ⟨blk, pivot, none⟩ (.int .u32 (G0 a))) := kp_swapN (Kp.refl _ _) _ _
    obtain ⟨wz, hwz⟩ : ∃ wz, wz = (((w.drewN (0 + 1)).setCell ⟨blk, a, none⟩ (.int .u32 (G0 pivot))).setCell ⟨blk, pivot, none⟩ (.int .u32 (G0 a))) := ⟨_, rfl⟩
    rw [← hwz] at hr kk
    have HWZ : Hid (wz = (((w.drewN (0 + 1)).setCell ⟨blk, a, none⟩ (.int .u32 (G0 pivot))).setCell ⟨blk, pivot, none⟩ (.int .u32 (G0 a)))) := hwz
    clear hwz x1 x2 y1 y2
    rw [show ((w.setCell ⟨blk, a, none⟩ (.int .u32 (G0 pivot))).setCell ⟨blk, pivot, none⟩ (.int .u32 (G0 a))).drew = wz from HWZ.out.symm]
    clear HWZ SWP
    obtain ⟨i0, hi0⟩ : ∃ i0 : Nat, i0 = a + 1 := ⟨_, rfl⟩
    obtain ⟨j0, hj0⟩ : ∃ j0 : Nat, j0 = b - 1 := ⟨_, rfl⟩
    have ei0 : (a : Int) + 1 = (i0 : Int) := by omega
    have ej0 : (b : Int) - 1 = (j0 : Int) := by omega
    obtain ⟨dk, hdk⟩ : ∃ dk : Array Int, dk = dz := ⟨_, rfl⟩
    have hp : Part P dz a b i0 j0 dk := by rw [hi0, hj0, hdk]; exact part_start P dz a b (by omega)
    have sz : dk.size = L := by rw [hdk]; exact hz1
    replace hr : Rw wz blk dk := by rw [hdk]; exact hr
    clear hi0 hj0 hdk
    have p1 := hp.ai
    have p2 := hp.ij
    have p3 := hp.jb
    go_wp2
    go_loopw [10] (fun vi wr2 => ∃ i : Nat, vi = .int .i64 i ∧ i0 ≤ i ∧ Part P dz a b i j0 dk ∧ Rw wr2 blk dk ∧ Kp (oneB blk) w wr2) (fun vi _ => ((j0 : Int) + 1 - intOf vi).toNat)
    case atStart => exact ⟨i0, by congr 1 <;> omega, Nat.le_refl _, hp, hr, kk⟩
    case round =>
      clear hp hr kk p1 p2 p3
      obtain ⟨i, rfl, bdi, hp, hr, kk⟩ := hrel
      have p1 := hp.ai
      have p2 := hp.ij
      have p3 := hp.jb
      by_cases hij : i ≤ j0
      · have hij' : (i : Int) ≤ (j0 : Int) := by omega
        obtain ⟨G, hG⟩ : ∃ G : Nat → Int, ∀ t, G t = dk[t]! := ⟨fun t => dk[t]!, fun _ => rfl⟩
        have xa : wr.cell? ⟨blk, a, none⟩ = some (.int .u32 (G a)) := by rw [hG]; exact hr.cell (by omega)
        have xi : wr.cell? ⟨blk, i, none⟩ = some (.int .u32 (G i)) := by rw [hG]; exact hr.cell (by omega)
        have ya := hr.frozen a
        have yi := hr.frozen i
        have bi : (i : Int) < (L : Int) := by omega
        have HG : Hid (∀ t, G t = dk[t]!) := hG
        clear hG
        have HH : Hid (G a = dz[a]!) := show _ = _ by rw [HG.out]; exact hp.head
        go_wp2
        go_quiet (first | (go_at_call 56; refine Calls.quiet_of_same (less_any _ _ _)))
        go_wp2
        · have hm : ltInt (G i) (G a) = true := by assumption
          have hup := hp.up hij (show P dk[i]! = true from (by have z := hm; rw [HPP.out, ← HH.out, ← HG.out]; simpa using z))
          go_roundw
          case rel => exact ⟨i + 1, by go_num, by omega, hup, hr.drewN _, kk.drewN _⟩
          case measure => simp [intOf]; omega
        · have hm : ltInt (G i) (G a) = false := by assumption
          have st1 : Hid (j0 < i ∨ P dk[i]! = false) := Or.inr (show P dk[i]! = false from (by have z := hm; rw [HPP.out, ← HH.out, ← HG.out]; simpa using z))
          clear xa xi ya yi HG HH hm bi
          obtain ⟨wq, hwq⟩ : ∃ wq, wq = wr.drewN nq := ⟨_, rfl⟩
          rw [← hwq]
          replace hr : Rw wq blk dk := by rw [hwq]; exact hr.drewN _
          replace kk : Kp (oneB blk) w wq := by rw [hwq]; exact kk.drewN _
          clear hwq
          go_wp2
          go_loopw [11] (fun vj wr2 => ∃ j : Nat, vj = .int .i64 j ∧ j ≤ j0 ∧ Part P dz a b i j dk ∧ Rw wr2 blk dk ∧ Kp (oneB blk) w wr2 ∧ (j < i ∨ P dk[i]! = false)) (fun vj _ => (intOf vj + 1 - (i : Int)).toNat)
          case atStart => exact ⟨j0, by congr 1 <;> omega, Nat.le_refl _, hp, hr, kk, st1.out⟩
          case round =>
            clear hp hr kk p1 p2 p3 st1
            obtain ⟨j, rfl, bdj, hp, hr, kk, st1⟩ := hrel
            have st1 : Hid (j < i ∨ P dk[i]! = false) := st1
            have p1 := hp.ai
            have p2 := hp.ij
            have p3 := hp.jb
            by_cases hij : i ≤ j
            · have hij' : (i : Int) ≤ (j : Int) := by omega
              obtain ⟨G, hG⟩ : ∃ G : Nat → Int, ∀ t, G t = dk[t]! := ⟨fun t => dk[t]!, fun _ => rfl⟩
              have xa : wr.cell? ⟨blk, a, none⟩ = some (.int .u32 (G a)) := by rw [hG]; exact hr.cell (by omega)
              have xi : wr.cell? ⟨blk, j, none⟩ = some (.int .u32 (G j)) := by rw [hG]; exact hr.cell (by omega)
              have ya := hr.frozen a
              have yi := hr.frozen j
              have bi : (j : Int) < (L : Int) := by omega
              have HG : Hid (∀ t, G t = dk[t]!) := hG
              clear hG
              have HH : Hid (G a = dz[a]!) := show _ = _ by rw [HG.out]; exact hp.head
              go_wp2
              go_quiet (first | (go_at_call 56; refine Calls.quiet_of_same (less_any _ _ _)))
              go_wp2
              · have hm : (!ltInt (G j) (G a)) = true := by assumption
                have hup := hp.down hij (show P dk[j]! = false from (by have z := hm; rw [HPP.out, ← HH.out, ← HG.out]; simpa using z))
                go_roundw
                case rel => exact ⟨j - 1, by congr 1; omega, by omega, hup, hr.drewN _, kk.drewN _, by rcases st1.out with z | z; exact Or.inl (by omega); exact Or.inr z⟩
                case measure => simp [intOf]; omega
              · have hm : (!ltInt (G j) (G a)) = false := by assumption
                have st2 : Hid (j < i ∨ P dk[j]! = true) := Or.inr (show P dk[j]! = true from (by have z := hm; rw [HPP.out, ← HH.out, ← HG.out]; simpa using z))
                clear xa xi ya yi HG HH hm bi
                obtain ⟨wq, hwq⟩ : ∃ wq, wq = wr.drewN nq := ⟨_, rfl⟩
                rw [← hwq]
                replace hr : Rw wq blk dk := by rw [hwq]; exact hr.drewN _
                replace kk : Kp (oneB blk) w wq := by rw [hwq]; exact kk.drewN _
                clear hwq
                have hgt' : ¬ (j : Int) < (i : Int) := by omega
                have hsw := hp.swap (by omega) hij (by rcases st1.out with z | z; omega; exact z) (by rcases st2.out with z | z; omega; exact z)
                have hne : ¬ i = j := by omega
                have hne' : ¬ j = i := by omega
                obtain ⟨G, hG⟩ : ∃ G : Nat → Int, ∀ t, G t = dk[t]! := ⟨fun t => dk[t]!, fun _ => rfl⟩
                have xi : wq.cell? ⟨blk, i, none⟩ = some (.int .u32 (G i)) := by rw [hG]; exact hr.cell (by omega)
                have xj : wq.cell? ⟨blk, j, none⟩ = some (.int .u32 (G j)) := by rw [hG]; exact hr.cell (by omega)
                have yi := hr.frozen i
                have yj := hr.frozen j
                have bi : (i : Int) < (L : Int) := by omega
                have bj : (j : Int) < (L : Int) := by omega
                have HG : Hid (∀ t, G t = dk[t]!) := hG
                clear hG
                go_wp2
                go_region
                all_goals go_wp2
                go_loopw [10, 11] (fun vi vj wr => ∃ (i j : Nat) (dk : Array Int), vi = .int .i64 i ∧ vj = .int .i64 j ∧ Part P dz a b i j dk ∧ Rw wr blk dk ∧ Kp (oneB blk) w wr ∧ dk.size = L) (fun vi vj _ => (intOf vj + 1 - intOf vi).toNat)
                case atStart => exact ⟨i + 1, j - 1, swp dk i j, by go_num, by congr 1; omega, hsw.2, hr.swapN HG.out (by omega) (by omega) _, kp_swapN kk _ _, by rw [Go.Sort.size_swp]; exact sz⟩
                case round =>
                  clear hr kk hp sz hsw xi xj yi yj HG bi bj hij hij' hne hne' hgt' st1 st2 p1 p2 p3
                  obtain ⟨i0, j0, dk, rfl, rfl, hp, hr, kk, sz⟩ := hrel
                  have p1 := hp.ai
                  have p2 := hp.ij
                  have p3 := hp.jb
                  go_wp2
                  go_loopw [10] (fun vi wr2 => ∃ i : Nat, vi = .int .i64 i ∧ i0 ≤ i ∧ Part P dz a b i j0 dk ∧ Rw wr2 blk dk ∧ Kp (oneB blk) w wr2) (fun vi _ => ((j0 : Int) + 1 - intOf vi).toNat)
                  case atStart => exact ⟨i0, by congr 1 <;> omega, Nat.le_refl _, hp, hr, kk⟩
                  case round =>
                    clear hp hr kk p1 p2 p3
                    obtain ⟨i, rfl, bdi, hp, hr, kk⟩ := hrel
                    have p1 := hp.ai
                    have p2 := hp.ij
                    have p3 := hp.jb
                    by_cases hij : i ≤ j0
                    · have hij' : (i : Int) ≤ (j0 : Int) := by omega
                      obtain ⟨G, hG⟩ : ∃ G : Nat → Int, ∀ t, G t = dk[t]! := ⟨fun t => dk[t]!, fun _ => rfl⟩
                      have xa : wr.cell? ⟨blk, a, none⟩ = some (.int .u32 (G a)) := by rw [hG]; exact hr.cell (by omega)
                      have xi : wr.cell? ⟨blk, i, none⟩ = some (.int .u32 (G i)) := by rw [hG]; exact hr.cell (by omega)
                      have ya := hr.frozen a
                      have yi := hr.frozen i
                      have bi : (i : Int) < (L : Int) := by omega
                      have HG : Hid (∀ t, G t = dk[t]!) := hG
                      clear hG
                      have HH : Hid (G a = dz[a]!) := show _ = _ by rw [HG.out]; exact hp.head
                      go_wp2
                      go_quiet (first | (go_at_call 56; refine Calls.quiet_of_same (less_any _ _ _)))
                      go_wp2
                      · have hm : ltInt (G i) (G a) = true := by assumption
                        have hup := hp.up hij (show P dk[i]! = true from (by have z := hm; rw [HPP.out, ← HH.out, ← HG.out]; simpa using z))
                        go_roundw
                        case rel => exact ⟨i + 1, by go_num, by omega, hup, hr.drewN _, kk.drewN _⟩
                        case measure => simp [intOf]; omega
                      · have hm : ltInt (G i) (G a) = false := by assumption
                        have st1 : Hid (j0 < i ∨ P dk[i]! = false) := Or.inr (show P dk[i]! = false from (by have z := hm; rw [HPP.out, ← HH.out, ← HG.out]; simpa using z))
                        clear xa xi ya yi HG HH hm bi
                        obtain ⟨wq, hwq⟩ : ∃ wq, wq = wr.drewN nq := ⟨_, rfl⟩
                        rw [← hwq]
                        replace hr : Rw wq blk dk := by rw [hwq]; exact hr.drewN _
                        replace kk : Kp (oneB blk) w wq := by rw [hwq]; exact kk.drewN _
                        clear hwq
                        go_wp2
                        go_loopw [11] (fun vj wr2 => ∃ j : Nat, vj = .int .i64 j ∧ j ≤ j0 ∧ Part P dz a b i j dk ∧ Rw wr2 blk dk ∧ Kp (oneB blk) w wr2 ∧ (j < i ∨ P dk[i]! = false)) (fun vj _ => (intOf vj + 1 - (i : Int)).toNat)
                        case atStart => exact ⟨j0, by congr 1 <;> omega, Nat.le_refl _, hp, hr, kk, st1.out⟩
                        case round =>
                          clear hp hr kk p1 p2 p3 st1
                          obtain ⟨j, rfl, bdj, hp, hr, kk, st1⟩ := hrel
                          have st1 : Hid (j < i ∨ P dk[i]! = false) := st1
                          have p1 := hp.ai
                          have p2 := hp.ij
                          have p3 := hp.jb
                          by_cases hij : i ≤ j
                          · have hij' : (i : Int) ≤ (j : Int) := by omega
                            obtain ⟨G, hG⟩ : ∃ G : Nat → Int, ∀ t, G t = dk[t]! := ⟨fun t => dk[t]!, fun _ => rfl⟩
                            have xa : wr.cell? ⟨blk, a, none⟩ = some (.int .u32 (G a)) := by rw [hG]; exact hr.cell (by omega)
                            have xi : wr.cell? ⟨blk, j, none⟩ = some (.int .u32 (G j)) := by rw [hG]; exact hr.cell (by omega)
                            have ya := hr.frozen a
                            have yi := hr.frozen j
                            have bi : (j : Int) < (L : Int) := by omega
                            have HG : Hid (∀ t, G t = dk[t]!) := hG
                            clear hG
                            have HH : Hid (G a = dz[a]!) := show _ = _ by rw [HG.out]; exact hp.head
                            go_wp2
                            go_quiet (first | (go_at_call 56; refine Calls.quiet_of_same (less_any _ _ _)))
                            go_wp2
                            · have hm : (!ltInt (G j) (G a)) = true := by assumption
                              have hup := hp.down hij (show P dk[j]! = false from (by have z := hm; rw [HPP.out, ← HH.out, ← HG.out]; simpa using z))
                              go_roundw
                              case rel => exact ⟨j - 1, by congr 1; omega, by omega, hup, hr.drewN _, kk.drewN _, by rcases st1.out with z | z; exact Or.inl (by omega); exact Or.inr z⟩
                              case measure => simp [intOf]; omega
                            · have hm : (!ltInt (G j) (G a)) = false := by assumption
                              have st2 : Hid (j < i ∨ P dk[j]! = true) := Or.inr (show P dk[j]! = true from (by have z := hm; rw [HPP.out, ← HH.out, ← HG.out]; simpa using z))
                              clear xa xi ya yi HG HH hm bi
                              obtain ⟨wq, hwq⟩ : ∃ wq, wq = wr.drewN nq := ⟨_, rfl⟩
                              rw [← hwq]
                              replace hr : Rw wq blk dk := by rw [hwq]; exact hr.drewN _
                              replace kk : Kp (oneB blk) w wq := by rw [hwq]; exact kk.drewN _
                              clear hwq
                              have hgt' : ¬ (j : Int) < (i : Int) := by omega
                              have hsw := hp.swap (by omega) hij (by rcases st1.out with z | z; omega; exact z) (by rcases st2.out with z | z; omega; exact z)
                              have hne : ¬ i = j := by omega
                              have hne' : ¬ j = i := by omega
                              obtain ⟨G, hG⟩ : ∃ G : Nat → Int, ∀ t, G t = dk[t]! := ⟨fun t => dk[t]!, fun _ => rfl⟩
                              have xi : wq.cell? ⟨blk, i, none⟩ = some (.int .u32 (G i)) := by rw [hG]; exact hr.cell (by omega)
                              have xj : wq.cell? ⟨blk, j, none⟩ = some (.int .u32 (G j)) := by rw [hG]; exact hr.cell (by omega)
                              have yi := hr.frozen i
                              have yj := hr.frozen j
                              have bi : (i : Int) < (L : Int) := by omega
                              have bj : (j : Int) < (L : Int) := by omega
                              have HG : Hid (∀ t, G t = dk[t]!) := hG
                              clear hG
                              go_wp2
                              go_region
                              all_goals go_wp2
                              go_roundw
                              case rel => exact ⟨i + 1, j - 1, swp dk i j, by go_num, by congr 1; omega, hsw.2, hr.swapN HG.out (by omega) (by omega) _, kp_swapN kk _ _, by rw [Go.Sort.size_swp]; exact sz⟩
                              case measure => simp [intOf]; omega
                          · have hij' : ¬ (i : Int) ≤ (j : Int) := by omega
                            have st2 : Hid (j < i ∨ P dk[j]! = true) := Or.inl (by omega)
                            go_wp2
                            go_quiet (fail)
                            go_wp2
                            obtain ⟨wq, hwq⟩ : ∃ wq, wq = wr.drewN nq := ⟨_, rfl⟩
                            rw [← hwq]
                            replace hr : Rw wq blk dk := by rw [hwq]; exact hr.drewN _
                            replace kk : Kp (oneB blk) w wq := by rw [hwq]; exact kk.drewN _
                            clear hwq
                            have hgt' : (j : Int) < (i : Int) := by omega
                            have hf := hp.fin HPP.out (by omega) (by omega)
                            obtain ⟨G, hG⟩ : ∃ G : Nat → Int, ∀ t, G t = dk[t]! := ⟨fun t => dk[t]!, fun _ => rfl⟩
                            have xa : wq.cell? ⟨blk, a, none⟩ = some (.int .u32 (G a)) := by rw [hG]; exact hr.cell (by omega)
                            have xj : wq.cell? ⟨blk, j, none⟩ = some (.int .u32 (G j)) := by rw [hG]; exact hr.cell (by omega)
                            have ya := hr.frozen a
                            have yj := hr.frozen j
                            have bj : (j : Int) < (L : Int) := by omega
                            have hsw := fun n => hr.swapN (i := j) (j := a) hG (by omega) (by omega) n
                            have hks := fun n => kp_swapN (i := j) (j := a) (n := n) kk (.int .u32 (G a)) (.int .u32 (G j))
                            have HSW : Hid (∀ n, Rw (((wq.drewN n).setCell ⟨blk, j, none⟩ (.int .u32 (G a))).setCell ⟨blk, a, none⟩ (.int .u32 (G j))) blk (swp dk j a)) := hsw
                            have HKS : Hid (∀ n, Kp (oneB blk) w (((wq.drewN n).setCell ⟨blk, j, none⟩ (.int .u32 (G a))).setCell ⟨blk, a, none⟩ (.int .u32 (G j)))) := hks
                            have HF : Hid (a ≤ j ∧ PermIn a b dz (swp dk j a) ∧ (∀ t, a ≤ t → t < j → ltInt (swp dk j a)[t]! (swp dk j a)[j]! = true) ∧ (∀ t, j < t → t < b → ltInt (swp dk j a)[t]! (swp dk j a)[j]! = false)) := hf
                            clear hG hsw hks hf
                            by_cases hja : j = a
                            · have hja' : ¬ a < j := by omega
                              rw [hja] at xj yj bj HSW HKS
                              have hja2 : (j : Int) = (a : Int) := by omega
                              go_wp2
                              go_region
                              all_goals go_wp2
                              all_goals exact bodyPost_ret (v := .tuple #[.int .i64 a, .bool false]) (by simp [results, Try.results58, go_sem] <;> omega) rfl ⟨a, false, swp dk a a, rfl, by omega, by omega, Go.Sort.permIn_trans _ _ _ _ _ HZ.out.2 (hja ▸ HF.out.2.1), hja ▸ HF.out.2.2.1, hja ▸ HF.out.2.2.2, HSW.out _, HKS.out _⟩
                            · have hne : ¬ a = j := fun g => hja g.symm
                              go_wp2
                              go_region
                              all_goals go_wp2
                              all_goals exact bodyPost_ret (v := .tuple #[.int .i64 j, .bool false]) (by simp [results, Try.results58, go_sem]) rfl ⟨j, false, swp dk j a, rfl, by omega, by omega, Go.Sort.permIn_trans _ _ _ _ _ HZ.out.2 (HF.out.2.1), HF.out.2.2.1, HF.out.2.2.2, HSW.out _, HKS.out _⟩
                    · have hij' : ¬ (i : Int) ≤ (j0 : Int) := by omega
                      have st1 : Hid (j0 < i ∨ P dk[i]! = false) := Or.inl (by omega)
                      go_wp2
                      go_quiet (fail)
                      go_wp2
                      obtain ⟨wq, hwq⟩ : ∃ wq, wq = wr.drewN nq := ⟨_, rfl⟩
                      rw [← hwq]
                      replace hr : Rw wq blk dk := by rw [hwq]; exact hr.drewN _
                      replace kk : Kp (oneB blk) w wq := by rw [hwq]; exact kk.drewN _
                      clear hwq
                      go_wp2
                      go_loopw [11] (fun vj wr2 => ∃ j : Nat, vj = .int .i64 j ∧ j ≤ j0 ∧ Part P dz a b i j dk ∧ Rw wr2 blk dk ∧ Kp (oneB blk) w wr2 ∧ (j < i ∨ P dk[i]! = false)) (fun vj _ => (intOf vj + 1 - (i : Int)).toNat)
                      case atStart => exact ⟨j0, by congr 1 <;> omega, Nat.le_refl _, hp, hr, kk, st1.out⟩
                      case round =>
                        clear hp hr kk p1 p2 p3 st1
                        obtain ⟨j, rfl, bdj, hp, hr, kk, st1⟩ := hrel
                        have st1 : Hid (j < i ∨ P dk[i]! = false) := st1
                        have p1 := hp.ai
                        have p2 := hp.ij
                        have p3 := hp.jb
                        by_cases hij : i ≤ j
                        · have hij' : (i : Int) ≤ (j : Int) := by omega
                          exfalso; omega
                        · have hij' : ¬ (i : Int) ≤ (j : Int) := by omega
                          have st2 : Hid (j < i ∨ P dk[j]! = true) := Or.inl (by omega)
                          go_wp2
                          go_quiet (fail)
                          go_wp2
                          obtain ⟨wq, hwq⟩ : ∃ wq, wq = wr.drewN nq := ⟨_, rfl⟩
                          rw [← hwq]
                          replace hr : Rw wq blk dk := by rw [hwq]; exact hr.drewN _
                          replace kk : Kp (oneB blk) w wq := by rw [hwq]; exact kk.drewN _
                          clear hwq
                          have hgt' : (j : Int) < (i : Int) := by omega
                          have hf := hp.fin HPP.out (by omega) (by omega)
                          obtain ⟨G, hG⟩ : ∃ G : Nat → Int, ∀ t, G t = dk[t]! := ⟨fun t => dk[t]!, fun _ => rfl⟩
                          have xa : wq.cell? ⟨blk, a, none⟩ = some (.int .u32 (G a)) := by rw [hG]; exact hr.cell (by omega)
                          have xj : wq.cell? ⟨blk, j, none⟩ = some (.int .u32 (G j)) := by rw [hG]; exact hr.cell (by omega)
                          have ya := hr.frozen a
                          have yj := hr.frozen j
                          have bj : (j : Int) < (L : Int) := by omega
                          have hsw := fun n => hr.swapN (i := j) (j := a) hG (by omega) (by omega) n
                          have hks := fun n => kp_swapN (i := j) (j := a) (n := n) kk (.int .u32 (G a)) (.int .u32 (G j))
                          have HSW : Hid (∀ n, Rw (((wq.drewN n).setCell ⟨blk, j, none⟩ (.int .u32 (G a))).setCell ⟨blk, a, none⟩ (.int .u32 (G j))) blk (swp dk j a)) := hsw
                          have HKS : Hid (∀ n, Kp (oneB blk) w (((wq.drewN n).setCell ⟨blk, j, none⟩ (.int .u32 (G a))).setCell ⟨blk, a, none⟩ (.int .u32 (G j)))) := hks
                          have HF : Hid (a ≤ j ∧ PermIn a b dz (swp dk j a) ∧ (∀ t, a ≤ t → t < j → ltInt (swp dk j a)[t]! (swp dk j a)[j]! = true) ∧ (∀ t, j < t → t < b → ltInt (swp dk j a)[t]! (swp dk j a)[j]! = false)) := hf
                          clear hG hsw hks hf
                          by_cases hja : j = a
                          · have hja' : ¬ a < j := by omega
                            rw [hja] at xj yj bj HSW HKS
                            have hja2 : (j : Int) = (a : Int) := by omega
                            go_wp2
                            go_region
                            all_goals go_wp2
                            all_goals exact bodyPost_ret (v := .tuple #[.int .i64 a, .bool false]) (by simp [results, Try.results58, go_sem] <;> omega) rfl ⟨a, false, swp dk a a, rfl, by omega, by omega, Go.Sort.permIn_trans _ _ _ _ _ HZ.out.2 (hja ▸ HF.out.2.1), hja ▸ HF.out.2.2.1, hja ▸ HF.out.2.2.2, HSW.out _, HKS.out _⟩
                          · have hne : ¬ a = j := fun g => hja g.symm
                            go_wp2
                            go_region
                            all_goals go_wp2
                            all_goals exact bodyPost_ret (v := .tuple #[.int .i64 j, .bool false]) (by simp [results, Try.results58, go_sem]) rfl ⟨j, false, swp dk j a, rfl, by omega, by omega, Go.Sort.permIn_trans _ _ _ _ _ HZ.out.2 (HF.out.2.1), HF.out.2.2.1, HF.out.2.2.2, HSW.out _, HKS.out _⟩
            · have hij' : ¬ (i : Int) ≤ (j : Int) := by omega
              have st2 : Hid (j < i ∨ P dk[j]! = true) := Or.inl (by omega)
              go_wp2
              go_quiet (fail)
              go_wp2
              obtain ⟨wq, hwq⟩ : ∃ wq, wq = wr.drewN nq := ⟨_, rfl⟩
              rw [← hwq]
              replace hr : Rw wq blk dk := by rw [hwq]; exact hr.drewN _
              replace kk : Kp (oneB blk) w wq := by rw [hwq]; exact kk.drewN _
              clear hwq
              have hgt' : (j : Int) < (i : Int) := by omega
              have hf := hp.fin HPP.out (by omega) (by omega)
              obtain ⟨G, hG⟩ : ∃ G : Nat → Int, ∀ t, G t = dk[t]! := ⟨fun t => dk[t]!, fun _ => rfl⟩
              have xa : wq.cell? ⟨blk, a, none⟩ = some (.int .u32 (G a)) := by rw [hG]; exact hr.cell (by omega)
              have xj : wq.cell? ⟨blk, j, none⟩ = some (.int .u32 (G j)) := by rw [hG]; exact hr.cell (by omega)
              have ya := hr.frozen a
              have yj := hr.frozen j
              have bj : (j : Int) < (L : Int) := by omega
              have hsw := fun n => hr.swapN (i := j) (j := a) hG (by omega) (by omega) n
              have hks := fun n => kp_swapN (i := j) (j := a) (n := n) kk (.int .u32 (G a)) (.int .u32 (G j))
              have HSW : Hid (∀ n, Rw (((wq.drewN n).setCell ⟨blk, j, none⟩ (.int .u32 (G a))).setCell ⟨blk, a, none⟩ (.int .u32 (G j))) blk (swp dk j a)) := hsw
              have HKS : Hid (∀ n, Kp (oneB blk) w (((wq.drewN n).setCell ⟨blk, j, none⟩ (.int .u32 (G a))).setCell ⟨blk, a, none⟩ (.int .u32 (G j)))) := hks
              have HF : Hid (a ≤ j ∧ PermIn a b dz (swp dk j a) ∧ (∀ t, a ≤ t → t < j → ltInt (swp dk j a)[t]! (swp dk j a)[j]! = true) ∧ (∀ t, j < t → t < b → ltInt (swp dk j a)[t]! (swp dk j a)[j]! = false)) := hf
              clear hG hsw hks hf
              by_cases hja : j = a
              · have hja' : ¬ a < j := by omega
                rw [hja] at xj yj bj HSW HKS
                have hja2 : (j : Int) = (a : Int) := by omega
                go_wp2
                go_region
                all_goals go_wp2
                all_goals exact bodyPost_ret (v := .tuple #[.int .i64 a, .bool true]) (by simp [results, Try.results58, go_sem] <;> omega) rfl ⟨a, true, swp dk a a, rfl, by omega, by omega, Go.Sort.permIn_trans _ _ _ _ _ HZ.out.2 (hja ▸ HF.out.2.1), hja ▸ HF.out.2.2.1, hja ▸ HF.out.2.2.2, HSW.out _, HKS.out _⟩
              · have hne : ¬ a = j := fun g => hja g.symm
                go_wp2
                go_region
                all_goals go_wp2
                all_goals exact bodyPost_ret (v := .tuple #[.int .i64 j, .bool true]) (by simp [results, Try.results58, go_sem]) rfl ⟨j, true, swp dk j a, rfl, by omega, by omega, Go.Sort.permIn_trans _ _ _ _ _ HZ.out.2 (HF.out.2.1), HF.out.2.2.1, HF.out.2.2.2, HSW.out _, HKS.out _⟩
      · have hij' : ¬ (i : Int) ≤ (j0 : Int) := by omega
        have st1 : Hid (j0 < i ∨ P dk[i]! = false) := Or.inl (by omega)
        go_wp2
        go_quiet (fail)
        go_wp2
        obtain ⟨wq, hwq⟩ : ∃ wq, wq = wr.drewN nq := ⟨_, rfl⟩
        rw [← hwq]
        replace hr : Rw wq blk dk := by rw [hwq]; exact hr.drewN _
        replace kk : Kp (oneB blk) w wq := by rw [hwq]; exact kk.drewN _
        clear hwq
        go_wp2
        go_loopw [11] (fun vj wr2 => ∃ j : Nat, vj = .int .i64 j ∧ j ≤ j0 ∧ Part P dz a b i j dk ∧ Rw wr2 blk dk ∧ Kp (oneB blk) w wr2 ∧ (j < i ∨ P dk[i]! = false)) (fun vj _ => (intOf vj + 1 - (i : Int)).toNat)
        case atStart => exact ⟨j0, by congr 1 <;> omega, Nat.le_refl _, hp, hr, kk, st1.out⟩
        case round =>
          clear hp hr kk p1 p2 p3 st1
          obtain ⟨j, rfl, bdj, hp, hr, kk, st1⟩ := hrel
          have st1 : Hid (j < i ∨ P dk[i]! = false) := st1
          have p1 := hp.ai
          have p2 := hp.ij
          have p3 := hp.jb
          by_cases hij : i ≤ j
          · have hij' : (i : Int) ≤ (j : Int) := by omega
            exfalso; omega
          · have hij' : ¬ (i : Int) ≤ (j : Int) := by omega
            have st2 : Hid (j < i ∨ P dk[j]! = true) := Or.inl (by omega)
            go_wp2
            go_quiet (fail)
            go_wp2
            obtain ⟨wq, hwq⟩ : ∃ wq, wq = wr.drewN nq := ⟨_, rfl⟩
            rw [← hwq]
            replace hr : Rw wq blk dk := by rw [hwq]; exact hr.drewN _
            replace kk : Kp (oneB blk) w wq := by rw [hwq]; exact kk.drewN _
            clear hwq
            have hgt' : (j : Int) < (i : Int) := by omega
            have hf := hp.fin HPP.out (by omega) (by omega)
            obtain ⟨G, hG⟩ : ∃ G : Nat → Int, ∀ t, G t = dk[t]! := ⟨fun t => dk[t]!, fun _ => rfl⟩
            have xa : wq.cell? ⟨blk, a, none⟩ = some (.int .u32 (G a)) := by rw [hG]; exact hr.cell (by omega)
            have xj : wq.cell? ⟨blk, j, none⟩ = some (.int .u32 (G j)) := by rw [hG]; exact hr.cell (by omega)
            have ya := hr.frozen a
            have yj := hr.frozen j
            have bj : (j : Int) < (L : Int) := by omega
            have hsw := fun n => hr.swapN (i := j) (j := a) hG (by omega) (by omega) n
            have hks := fun n => kp_swapN (i := j) (j := a) (n := n) kk (.int .u32 (G a)) (.int .u32 (G j))
            have HSW : Hid (∀ n, Rw (((wq.drewN n).setCell ⟨blk, j, none⟩ (.int .u32 (G a))).setCell ⟨blk, a, none⟩ (.int .u32 (G j))) blk (swp dk j a)) := hsw
            have HKS : Hid (∀ n, Kp (oneB blk) w (((wq.drewN n).setCell ⟨blk, j, none⟩ (.int .u32 (G a))).setCell ⟨blk, a, none⟩ (.int .u32 (G j)))) := hks
            have HF : Hid (a ≤ j ∧ PermIn a b dz (swp dk j a) ∧ (∀ t, a ≤ t → t < j → ltInt (swp dk j a)[t]! (swp dk j a)[j]! = true) ∧ (∀ t, j < t → t < b → ltInt (swp dk j a)[t]! (swp dk j a)[j]! = false)) := hf
            clear hG hsw hks hf
            by_cases hja : j = a
            · have hja' : ¬ a < j := by omega
              rw [hja] at xj yj bj HSW HKS
              have hja2 : (j : Int) = (a : Int) := by omega
              go_wp2
              go_region
              all_goals go_wp2
              all_goals exact bodyPost_ret (v := .tuple #[.int .i64 a, .bool true]) (by simp [results, Try.results58, go_sem] <;> omega) rfl ⟨a, true, swp dk a a, rfl, by omega, by omega, Go.Sort.permIn_trans _ _ _ _ _ HZ.out.2 (hja ▸ HF.out.2.1), hja ▸ HF.out.2.2.1, hja ▸ HF.out.2.2.2, HSW.out _, HKS.out _⟩
            · have hne : ¬ a = j := fun g => hja g.symm
              go_wp2
              go_region
              all_goals go_wp2
              all_goals exact bodyPost_ret (v := .tuple #[.int .i64 j, .bool true]) (by simp [results, Try.results58, go_sem]) rfl ⟨j, true, swp dk j a, rfl, by omega, by omega, Go.Sort.permIn_trans _ _ _ _ _ HZ.out.2 (HF.out.2.1), HF.out.2.2.1, HF.out.2.2.2, HSW.out _, HKS.out _⟩
end Go.Proofs.Ytankfdcpnhociaa
