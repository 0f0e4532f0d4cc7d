/- The partial insertion sort of the library's sort at uint32. -/
import Derived.Test.YtankfdcpnhociaaRamHeap
namespace Go.Proofs.Ytankfdcpnhociaa
open Go.ChangeShapes Go.WideShapes Go.ChangeAt Go.RowKit Go.Maps Go.Shelf
open Go.Sort (swp ltInt PermIn SortedIn)
set_option linter.unusedVariables false

/-- What is left behind: a permutation; if it says so, a sorted one. -/
def PinsPost (w : World) (blk a b : Nat) (d : Array Int) (e : Ending) (w' : World) : Prop :=
  ∃ (r : Bool) (d' : Array Int), e = .returned (.bool r) ∧ PermIn a b d d' ∧ (r = true → SortedIn ltInt a b d') ∧ Rw w' blk d' ∧ Kp (oneB blk) w w'

set_option maxRecDepth 100000 in
set_option maxHeartbeats 8000000 in
theorem pins_any (w : World) (blk cap a b : Nat) (d : Array Int) (h : Rw w blk d) (hab : a < b) (hb : b ≤ d.size) (hs : d.size ≤ 16384) (hbl : Go.Sort.Below ltInt a b d) :
    Calls Try.prog 55 #[.slice (some ⟨blk, 0, none⟩) d.size cap, .int .i64 a, .int .i64 b] w fun e w' =>
      PinsPost w blk a b d e w' := by
  obtain ⟨L, hL⟩ : ∃ L, L = d.size := ⟨_, rfl⟩
  have hdb : b ≤ d.size := hb
  rw [← hL] at hb hs ⊢
  have HL : Hid (L = d.size) := hL
  have HBL : Hid (Go.Sort.Below ltInt a b d) := hbl
  clear hL hbl
  go_enter Try.func55, Try.ntmps55
  go_wp2
  go_loopw [7, 8] (fun vi vs wr => ∃ (i s : Nat) (dk : Array Int), vi = .int .i64 i ∧ vs = .int .i64 s ∧ s ≤ 5 ∧ a < i ∧ i ≤ b ∧ dk.size = L ∧ PermIn a b d dk ∧ SortedIn ltInt a i dk ∧ Rw wr blk dk ∧ Kp (oneB blk) w wr) (fun _ vs _ => 5 - (intOf vs).toNat)
  case atStart => exact ⟨a + 1, 0, d, by go_num, rfl, by omega, by omega, by omega, HL.out.symm, Go.Sort.permIn_refl _ _ _, fun p q h1 h2 h3 => by omega, h, Kp.refl _ _⟩
  case round =>
    obtain ⟨i0, s, dk, rfl, rfl, hs5, hai, hib, sz, hp, hsd, hr, kk⟩ := hrel
    by_cases h5 : s < 5
    · have h5' : (s : Int) < 5 := by omega
      go_wp2
      go_loopw [7] (fun vi wr2 => ∃ i : Nat, vi = .int .i64 i ∧ i0 ≤ i ∧ i ≤ b ∧ SortedIn ltInt a i dk ∧ Rw wr2 blk dk ∧ Kp (oneB blk) w wr2) (fun vi _ => ((b : Int) - intOf vi).toNat)
      case atStart => exact ⟨i0, rfl, Nat.le_refl _, hib, hsd, hr, kk⟩
      case round =>
        clear hr kk hsd hib
        obtain ⟨i, rfl, hi0, hib, hsd, hr, kk⟩ := hrel
        by_cases hlt : i < b
        · have hlt' : (i : Int) < (b : Int) := by omega
          obtain ⟨G, hG⟩ : ∃ G : Nat → Int, ∀ t, G t = dk[t]! := ⟨fun t => dk[t]!, fun _ => rfl⟩
          have xa : wr.cell? ⟨blk, i, none⟩ = some (.int .u32 (G i)) := by rw [hG]; exact hr.cell (by omega)
          have xb : wr.cell? ⟨blk, i - 1, none⟩ = some (.int .u32 (G (i - 1))) := by rw [hG]; exact hr.cell (by omega)
          have ya := hr.frozen i
          have yb := hr.frozen (i - 1)
          have ba : (i : Int) < (L : Int) := by omega
          have bb : (0 : Int) ≤ (i : Int) - 1 := by omega
          have bc : (i : Int) - 1 < (L : Int) := by omega
          have HG : Hid (∀ t, G t = dk[t]!) := hG
          clear hG
          go_wp2
          go_quiet (first | (go_at_call 56; refine Calls.quiet_of_same (less_any _ _ _)))
          go_wp2
          · have hm : (!ltInt (G i) (G (i - 1))) = true := by assumption
            have hsd2 := Go.Sort.SortedIn.snoc Go.Sort.swo_ltInt hsd (by rw [← HG.out, ← HG.out]; simpa using hm)
            go_roundw
            case rel => exact ⟨i + 1, by go_num, by omega, by omega, hsd2, hr.drewN _, kk.drewN _⟩
            case measure => simp [intOf]; omega
          · go_ret
            exact ⟨false, dk, rfl, hp, (fun e => by cases e), hr.drewN _, kk.drewN _⟩
          · clear xa xb ya yb ba bb bc HG
            obtain ⟨wq, hwq⟩ : ∃ wq, wq = wr.drewN nq := ⟨_, rfl⟩
            rw [← hwq]
            replace hr : Rw wq blk dk := by rw [hwq]; exact hr.drewN _
            replace kk : Kp (oneB blk) w wq := by rw [hwq]; exact kk.drewN _
            clear hwq
            · skip
              obtain ⟨G, hG⟩ : ∃ G : Nat → Int, ∀ t, G t = dk[t]! := ⟨fun t => dk[t]!, fun _ => rfl⟩
              have xa : wq.cell? ⟨blk, i, none⟩ = some (.int .u32 (G i)) := by rw [hG]; exact hr.cell (by omega)
              have xb : wq.cell? ⟨blk, i - 1, none⟩ = some (.int .u32 (G (i - 1))) := by rw [hG]; exact hr.cell (by omega)
              have ya := hr.frozen i
              have yb := hr.frozen (i - 1)
              have ba : (i : Int) < (L : Int) := by omega
              have bb : (0 : Int) ≤ (i : Int) - 1 := by omega
              have bc : (i : Int) - 1 < (L : Int) := by omega
              have HG : Hid (∀ t, G t = dk[t]!) := hG
              clear hG
              have hins : Go.Sort.Ins ltInt a (i - 1) (i - 1) (swp dk i (i - 1)) := ⟨fun p q h1 h2 h3 h4 h5 => by
                rw [Go.Sort.swp_other dk i (i - 1) p (by omega) (by omega), Go.Sort.swp_other dk i (i - 1) q (by omega) (by omega)]; exact hsd p q h1 h2 (by omega), fun q h1 h2 => by omega⟩
              have hp2 : PermIn a b d (swp dk i (i - 1)) := Go.Sort.permIn_trans _ _ _ _ _ hp (Go.Sort.swp_permIn dk a b i (i - 1) (by omega) (by omega) (by omega) (by omega) (by omega))
              have sz2 : (swp dk i (i - 1)).size = L := by rw [Go.Sort.size_swp]; exact sz
              have hr2 := fun n => hr.swapN (i := i) (j := i - 1) HG.out (by omega) (by omega) n
              have kk2 := fun n => kp_swapN (i := i) (j := i - 1) (n := n) kk (.int .u32 (G (i - 1))) (.int .u32 (G i))
              have HR2 : Hid ((∀ n, Rw (((wq.drewN n).setCell ⟨blk, i, none⟩ (.int .u32 (G (i - 1)))).setCell ⟨blk, i - 1, none⟩ (.int .u32 (G i))) blk (swp dk i (i - 1))) ∧ (∀ n, Kp (oneB blk) w (((wq.drewN n).setCell ⟨blk, i, none⟩ (.int .u32 (G (i - 1)))).setCell ⟨blk, i - 1, none⟩ (.int .u32 (G i))))) := ⟨hr2, kk2⟩
              have HX : Hid (Go.Sort.Ins ltInt a (i - 1) (i - 1) (swp dk i (i - 1)) ∧ PermIn a b d (swp dk i (i - 1)) ∧ (swp dk i (i - 1)).size = L) := ⟨hins, hp2, sz2⟩
              clear hins hp2 sz2 hr2 kk2 hsd hp
              by_cases hia : a + 2 ≤ i
              · have hia' : (2 : Int) ≤ (i : Int) - (a : Int) := by omega
                by_cases hbi : i + 2 ≤ b
                · have hbi' : (2 : Int) ≤ (b : Int) - (i : Int) := by omega
                  go_region
                  all_goals go_wp2_with fail
                  obtain ⟨wv, hwv⟩ : ∃ wv, wv = (((wq.drewN (0 + 1)).setCell ⟨blk, i, none⟩ (.int .u32 (G (i - 1)))).setCell ⟨blk, i - 1, none⟩ (.int .u32 (G i))) := ⟨_, rfl⟩
                  have hr3 := HR2.out.1 (0 + 1)
                  have kk3 := HR2.out.2 (0 + 1)
                  rw [← hwv] at hr3 kk3
                  rw [show ((wq.setCell ⟨blk, i, none⟩ (.int .u32 (G (i - 1)))).setCell ⟨blk, i - 1, none⟩ (.int .u32 (G i))).drew = wv from hwv.symm]
                  obtain ⟨dj, hdj⟩ : ∃ dj, dj = swp dk i (i - 1) := ⟨_, rfl⟩
                  have hins := HX.out.1
                  have hp := HX.out.2.1
                  have sz3 := HX.out.2.2
                  rw [← hdj] at hins hp sz3 hr3
                  clear hwv HR2 HX xa xb ya yb ba bb bc HG hr kk sz hdj
                  have sz := sz3
                  have hr := hr3
                  have kk := kk3
                  clear sz3 hr3 kk3
                  go_loopw [9] (fun vj wr2 => ∃ (j : Nat) (dk : Array Int), vj = .int .i64 j ∧ a ≤ j ∧ j < i ∧ dk.size = L ∧ PermIn a b d dk ∧ Go.Sort.Ins ltInt a j (i - 1) dk ∧ Rw wr2 blk dk ∧ Kp (oneB blk) w wr2) (fun vj _ => (intOf vj).toNat)
                  case atStart => exact ⟨i - 1, dj, by congr 1; omega, by omega, by omega, sz, hp, hins, hr, kk⟩
                  case round =>
                    clear hr kk hp hins sz
                    obtain ⟨j, dk, rfl, hj1, hj2, sz, hp, hins, hr, kk⟩ := hrel
                    by_cases hj0 : 1 ≤ j
                    · have hj0' : (1 : Int) ≤ (j : Int) := by omega
                      obtain ⟨G, hG⟩ : ∃ G : Nat → Int, ∀ t, G t = dk[t]! := ⟨fun t => dk[t]!, fun _ => rfl⟩
                      have xa : wr.cell? ⟨blk, j, none⟩ = some (.int .u32 (G j)) := by rw [hG]; exact hr.cell (by omega)
                      have xb : wr.cell? ⟨blk, j - 1, none⟩ = some (.int .u32 (G (j - 1))) := by rw [hG]; exact hr.cell (by omega)
                      have ya := hr.frozen j
                      have yb := hr.frozen (j - 1)
                      have ba : (j : Int) < (L : Int) := by omega
                      have bb : (0 : Int) ≤ (j : Int) - 1 := by omega
                      have bc : (j : Int) - 1 < (L : Int) := by omega
                      have HG : Hid (∀ t, G t = dk[t]!) := hG
                      clear hG
                      have HB : Hid (j = a → ltInt (G j) (G (j - 1)) = false) := fun e => by
                        rcases Go.Sort.Below.permA Go.Sort.permIn_all (by omega) HBL.out hp with z | z
                        · omega
                        · rw [HG.out, HG.out, e]; exact z a (by omega) (by omega)
                      go_wp2
                      go_quiet (first | (go_at_call 56; refine Calls.quiet_of_same (less_any _ _ _)))
                      go_wp2
                      · have hm : (!ltInt (G j) (G (j - 1))) = true := by assumption
                        have hsd : SortedIn ltInt a i dk := by
                          have z := Go.Sort.Ins.stop Go.Sort.swo_ltInt hins (Or.inr (by rw [← HG.out, ← HG.out]; simpa using hm))
                          rwa [show i - 1 + 1 = i by omega] at z
                        clear xa xb ya yb ba bb bc HG hm hins HB
                        obtain ⟨wq, hwq⟩ : ∃ wq, wq = wr.drewN nq := ⟨_, rfl⟩
                        rw [← hwq]
                        replace hr : Rw wq blk dk := by rw [hwq]; exact hr.drewN _
                        replace kk : Kp (oneB blk) w wq := by rw [hwq]; exact kk.drewN _
                        clear hwq
                        go_loopw [10] (fun vj wr2 => ∃ (j : Nat) (dk : Array Int), vj = .int .i64 j ∧ i < j ∧ j ≤ b ∧ dk.size = L ∧ PermIn a b d dk ∧ SortedIn ltInt a i dk ∧ Rw wr2 blk dk ∧ Kp (oneB blk) w wr2) (fun vj _ => ((b : Int) - intOf vj).toNat)
                        case atStart => exact ⟨i + 1, dk, by go_num, by omega, by omega, sz, hp, hsd, hr, kk⟩
                        case round =>
                          clear hr kk hp hsd sz
                          obtain ⟨j, dk, rfl, hj1, hj2, sz, hp, hsd, hr, kk⟩ := hrel
                          by_cases hjb : j < b
                          · have hjb' : (j : Int) < (b : Int) := by omega
                            obtain ⟨G, hG⟩ : ∃ G : Nat → Int, ∀ t, G t = dk[t]! := ⟨fun t => dk[t]!, fun _ => rfl⟩
                            have xa : wr.cell? ⟨blk, j, none⟩ = some (.int .u32 (G j)) := by rw [hG]; exact hr.cell (by omega)
                            have xb : wr.cell? ⟨blk, j - 1, none⟩ = some (.int .u32 (G (j - 1))) := by rw [hG]; exact hr.cell (by omega)
                            have ya := hr.frozen j
                            have yb := hr.frozen (j - 1)
                            have ba : (j : Int) < (L : Int) := by omega
                            have bb : (0 : Int) ≤ (j : Int) - 1 := by omega
                            have bc : (j : Int) - 1 < (L : Int) := by omega
                            have HG : Hid (∀ t, G t = dk[t]!) := hG
                            clear hG
                            go_wp2
                            go_quiet (first | (go_at_call 56; refine Calls.quiet_of_same (less_any _ _ _)))
                            go_wp2
                            · clear xa xb ya yb ba bb bc HG
                              obtain ⟨wq, hwq⟩ : ∃ wq, wq = wr.drewN nq := ⟨_, rfl⟩
                              rw [← hwq]
                              replace hr : Rw wq blk dk := by rw [hwq]; exact hr.drewN _
                              replace kk : Kp (oneB blk) w wq := by rw [hwq]; exact kk.drewN _
                              clear hwq
                              go_roundw
                              case rel => exact ⟨i, s + 1, dk, rfl, by go_num, by omega, by omega, by omega, sz, hp, hsd, hr, kk⟩
                              case measure => simp [intOf]; omega
                            · go_region
                              all_goals go_wp2
                              go_roundw
                              case rel => exact ⟨j + 1, swp dk j (j - 1), by go_num, by omega, by omega, by rw [Go.Sort.size_swp]; exact sz, Go.Sort.permIn_trans _ _ _ _ _ hp (Go.Sort.swp_permIn dk a b j (j - 1) (by omega) (by omega) (by omega) (by omega) (by omega)), Go.Sort.SortedIn.congrA hsd (fun p hp' => Go.Sort.swp_other dk j (j - 1) p (by omega) (by omega)), hr.swapN HG.out (by omega) (by omega) _, kp_swapN kk _ _⟩
                              case measure => simp [intOf]; omega
                          · have hjb' : ¬ (j : Int) < (b : Int) := by omega
                            go_wp2
                            go_roundw
                            case rel => exact ⟨i, s + 1, dk, rfl, by go_num, by omega, by omega, by omega, sz, hp, hsd, hr, kk⟩
                            case measure => simp [intOf]; omega
                      · have hm : (!ltInt (G j) (G (j - 1))) = false := by assumption
                        have hm2 : ltInt (G j) (G (j - 1)) = true := by simpa using hm
                        have hja : a < j := by
                          rcases (by omega : j = a ∨ a < j) with e | e
                          · have := HB.out e; rw [hm2] at this; cases this
                          · exact e
                        have hins2 : Go.Sort.Ins ltInt a (j - 1) (i - 1) (swp dk j (j - 1)) := by
                          have e : j - 1 + 1 = j := by omega
                          have z := Go.Sort.Ins.step (j := j - 1) (by rw [e]; exact hins) (by rw [e, ← HG.out, ← HG.out]; exact hm2) (by omega) (by omega)
                          rwa [e] at z
                        have HI2 : Hid (Go.Sort.Ins ltInt a (j - 1) (i - 1) (swp dk j (j - 1))) := hins2
                        clear hins2
                        go_region
                        all_goals go_wp2
                        go_roundw
                        case rel => exact ⟨j - 1, swp dk j (j - 1), by congr 1; omega, by omega, by omega, by rw [Go.Sort.size_swp]; exact sz, Go.Sort.permIn_trans _ _ _ _ _ hp (Go.Sort.swp_permIn dk a b j (j - 1) (by omega) (by omega) (by omega) (by omega) (by omega)), HI2.out, hr.swapN HG.out (by omega) (by omega) _, kp_swapN kk _ _⟩
                        case measure => simp [intOf]; omega
                    · have hj0' : ¬ (1 : Int) ≤ (j : Int) := by omega
                      have hsd : SortedIn ltInt a i dk := by
                        have z := Go.Sort.Ins.stop Go.Sort.swo_ltInt hins (Or.inl (by omega))
                        rwa [show i - 1 + 1 = i by omega] at z
                      clear hins
                      go_wp2
                      go_loopw [10] (fun vj wr2 => ∃ (j : Nat) (dk : Array Int), vj = .int .i64 j ∧ i < j ∧ j ≤ b ∧ dk.size = L ∧ PermIn a b d dk ∧ SortedIn ltInt a i dk ∧ Rw wr2 blk dk ∧ Kp (oneB blk) w wr2) (fun vj _ => ((b : Int) - intOf vj).toNat)
                      case atStart => exact ⟨i + 1, dk, by go_num, by omega, by omega, sz, hp, hsd, hr, kk⟩
                      case round =>
                        clear hr kk hp hsd sz
                        obtain ⟨j, dk, rfl, hj1, hj2, sz, hp, hsd, hr, kk⟩ := hrel
                        by_cases hjb : j < b
                        · have hjb' : (j : Int) < (b : Int) := by omega
                          obtain ⟨G, hG⟩ : ∃ G : Nat → Int, ∀ t, G t = dk[t]! := ⟨fun t => dk[t]!, fun _ => rfl⟩
                          have xa : wr.cell? ⟨blk, j, none⟩ = some (.int .u32 (G j)) := by rw [hG]; exact hr.cell (by omega)
                          have xb : wr.cell? ⟨blk, j - 1, none⟩ = some (.int .u32 (G (j - 1))) := by rw [hG]; exact hr.cell (by omega)
                          have ya := hr.frozen j
                          have yb := hr.frozen (j - 1)
                          have ba : (j : Int) < (L : Int) := by omega
                          have bb : (0 : Int) ≤ (j : Int) - 1 := by omega
                          have bc : (j : Int) - 1 < (L : Int) := by omega
                          have HG : Hid (∀ t, G t = dk[t]!) := hG
                          clear hG
                          go_wp2
                          go_quiet (first | (go_at_call 56; refine Calls.quiet_of_same (less_any _ _ _)))
                          go_wp2
                          · clear xa xb ya yb ba bb bc HG
                            obtain ⟨wq, hwq⟩ : ∃ wq, wq = wr.drewN nq := ⟨_, rfl⟩
                            rw [← hwq]
                            replace hr : Rw wq blk dk := by rw [hwq]; exact hr.drewN _
                            replace kk : Kp (oneB blk) w wq := by rw [hwq]; exact kk.drewN _
                            clear hwq
                            go_roundw
                            case rel => exact ⟨i, s + 1, dk, rfl, by go_num, by omega, by omega, by omega, sz, hp, hsd, hr, kk⟩
                            case measure => simp [intOf]; omega
                          · go_region
                            all_goals go_wp2
                            go_roundw
                            case rel => exact ⟨j + 1, swp dk j (j - 1), by go_num, by omega, by omega, by rw [Go.Sort.size_swp]; exact sz, Go.Sort.permIn_trans _ _ _ _ _ hp (Go.Sort.swp_permIn dk a b j (j - 1) (by omega) (by omega) (by omega) (by omega) (by omega)), Go.Sort.SortedIn.congrA hsd (fun p hp' => Go.Sort.swp_other dk j (j - 1) p (by omega) (by omega)), hr.swapN HG.out (by omega) (by omega) _, kp_swapN kk _ _⟩
                            case measure => simp [intOf]; omega
                        · have hjb' : ¬ (j : Int) < (b : Int) := by omega
                          go_wp2
                          go_roundw
                          case rel => exact ⟨i, s + 1, dk, rfl, by go_num, by omega, by omega, by omega, sz, hp, hsd, hr, kk⟩
                          case measure => simp [intOf]; omega
                · have hbi' : ¬ (2 : Int) ≤ (b : Int) - (i : Int) := by omega
                  go_region
                  all_goals go_wp2_with fail
                  obtain ⟨wv, hwv⟩ : ∃ wv, wv = (((wq.drewN (0 + 1)).setCell ⟨blk, i, none⟩ (.int .u32 (G (i - 1)))).setCell ⟨blk, i - 1, none⟩ (.int .u32 (G i))) := ⟨_, rfl⟩
                  have hr3 := HR2.out.1 (0 + 1)
                  have kk3 := HR2.out.2 (0 + 1)
                  rw [← hwv] at hr3 kk3
                  rw [show ((wq.setCell ⟨blk, i, none⟩ (.int .u32 (G (i - 1)))).setCell ⟨blk, i - 1, none⟩ (.int .u32 (G i))).drew = wv from hwv.symm]
                  obtain ⟨dj, hdj⟩ : ∃ dj, dj = swp dk i (i - 1) := ⟨_, rfl⟩
                  have hins := HX.out.1
                  have hp := HX.out.2.1
                  have sz3 := HX.out.2.2
                  rw [← hdj] at hins hp sz3 hr3
                  clear hwv HR2 HX xa xb ya yb ba bb bc HG hr kk sz hdj
                  have sz := sz3
                  have hr := hr3
                  have kk := kk3
                  clear sz3 hr3 kk3
                  go_loopw [9] (fun vj wr2 => ∃ (j : Nat) (dk : Array Int), vj = .int .i64 j ∧ a ≤ j ∧ j < i ∧ dk.size = L ∧ PermIn a b d dk ∧ Go.Sort.Ins ltInt a j (i - 1) dk ∧ Rw wr2 blk dk ∧ Kp (oneB blk) w wr2) (fun vj _ => (intOf vj).toNat)
                  case atStart => exact ⟨i - 1, dj, by congr 1; omega, by omega, by omega, sz, hp, hins, hr, kk⟩
                  case round =>
                    clear hr kk hp hins sz
                    obtain ⟨j, dk, rfl, hj1, hj2, sz, hp, hins, hr, kk⟩ := hrel
                    by_cases hj0 : 1 ≤ j
                    · have hj0' : (1 : Int) ≤ (j : Int) := by omega
                      obtain ⟨G, hG⟩ : ∃ G : Nat → Int, ∀ t, G t = dk[t]! := ⟨fun t => dk[t]!, fun _ => rfl⟩
                      have xa : wr.cell? ⟨blk, j, none⟩ = some (.int .u32 (G j)) := by rw [hG]; exact hr.cell (by omega)
                      have xb : wr.cell? ⟨blk, j - 1, none⟩ = some (.int .u32 (G (j - 1))) := by rw [hG]; exact hr.cell (by omega)
                      have ya := hr.frozen j
                      have yb := hr.frozen (j - 1)
                      have ba : (j : Int) < (L : Int) := by omega
                      have bb : (0 : Int) ≤ (j : Int) - 1 := by omega
                      have bc : (j : Int) - 1 < (L : Int) := by omega
                      have HG : Hid (∀ t, G t = dk[t]!) := hG
                      clear hG
                      have HB : Hid (j = a → ltInt (G j) (G (j - 1)) = false) := fun e => by
                        rcases Go.Sort.Below.permA Go.Sort.permIn_all (by omega) HBL.out hp with z | z
                        · omega
                        · rw [HG.out, HG.out, e]; exact z a (by omega) (by omega)
                      go_wp2
                      go_quiet (first | (go_at_call 56; refine Calls.quiet_of_same (less_any _ _ _)))
                      go_wp2
                      · have hm : (!ltInt (G j) (G (j - 1))) = true := by assumption
                        have hsd : SortedIn ltInt a i dk := by
                          have z := Go.Sort.Ins.stop Go.Sort.swo_ltInt hins (Or.inr (by rw [← HG.out, ← HG.out]; simpa using hm))
                          rwa [show i - 1 + 1 = i by omega] at z
                        clear xa xb ya yb ba bb bc HG hm hins HB
                        obtain ⟨wq, hwq⟩ : ∃ wq, wq = wr.drewN nq := ⟨_, rfl⟩
                        rw [← hwq]
                        replace hr : Rw wq blk dk := by rw [hwq]; exact hr.drewN _
                        replace kk : Kp (oneB blk) w wq := by rw [hwq]; exact kk.drewN _
                        clear hwq
                        go_roundw
                        case rel => exact ⟨i, s + 1, dk, rfl, by go_num, by omega, by omega, by omega, sz, hp, hsd, hr, kk⟩
                        case measure => simp [intOf]; omega
                      · have hm : (!ltInt (G j) (G (j - 1))) = false := by assumption
                        have hm2 : ltInt (G j) (G (j - 1)) = true := by simpa using hm
                        have hja : a < j := by
                          rcases (by omega : j = a ∨ a < j) with e | e
                          · have := HB.out e; rw [hm2] at this; cases this
                          · exact e
                        have hins2 : Go.Sort.Ins ltInt a (j - 1) (i - 1) (swp dk j (j - 1)) := by
                          have e : j - 1 + 1 = j := by omega
                          have z := Go.Sort.Ins.step (j := j - 1) (by rw [e]; exact hins) (by rw [e, ← HG.out, ← HG.out]; exact hm2) (by omega) (by omega)
                          rwa [e] at z
                        have HI2 : Hid (Go.Sort.Ins ltInt a (j - 1) (i - 1) (swp dk j (j - 1))) := hins2
                        clear hins2
                        go_region
                        all_goals go_wp2
                        go_roundw
                        case rel => exact ⟨j - 1, swp dk j (j - 1), by congr 1; omega, by omega, by omega, by rw [Go.Sort.size_swp]; exact sz, Go.Sort.permIn_trans _ _ _ _ _ hp (Go.Sort.swp_permIn dk a b j (j - 1) (by omega) (by omega) (by omega) (by omega) (by omega)), HI2.out, hr.swapN HG.out (by omega) (by omega) _, kp_swapN kk _ _⟩
                        case measure => simp [intOf]; omega
                    · have hj0' : ¬ (1 : Int) ≤ (j : Int) := by omega
                      have hsd : SortedIn ltInt a i dk := by
                        have z := Go.Sort.Ins.stop Go.Sort.swo_ltInt hins (Or.inl (by omega))
                        rwa [show i - 1 + 1 = i by omega] at z
                      clear hins
                      go_wp2
                      go_roundw
                      case rel => exact ⟨i, s + 1, dk, rfl, by go_num, by omega, by omega, by omega, sz, hp, hsd, hr, kk⟩
                      case measure => simp [intOf]; omega
              · have hia' : ¬ (2 : Int) ≤ (i : Int) - (a : Int) := by omega
                by_cases hbi : i + 2 ≤ b
                · have hbi' : (2 : Int) ≤ (b : Int) - (i : Int) := by omega
                  go_region
                  all_goals go_wp2_with fail
                  obtain ⟨wv, hwv⟩ : ∃ wv, wv = (((wq.drewN (0 + 1)).setCell ⟨blk, i, none⟩ (.int .u32 (G (i - 1)))).setCell ⟨blk, i - 1, none⟩ (.int .u32 (G i))) := ⟨_, rfl⟩
                  have hr3 := HR2.out.1 (0 + 1)
                  have kk3 := HR2.out.2 (0 + 1)
                  rw [← hwv] at hr3 kk3
                  rw [show ((wq.setCell ⟨blk, i, none⟩ (.int .u32 (G (i - 1)))).setCell ⟨blk, i - 1, none⟩ (.int .u32 (G i))).drew = wv from hwv.symm]
                  obtain ⟨dj, hdj⟩ : ∃ dj, dj = swp dk i (i - 1) := ⟨_, rfl⟩
                  have hins := HX.out.1
                  have hp := HX.out.2.1
                  have sz3 := HX.out.2.2
                  rw [← hdj] at hins hp sz3 hr3
                  clear hwv HR2 HX xa xb ya yb ba bb bc HG hr kk sz hdj
                  have sz := sz3
                  have hr := hr3
                  have kk := kk3
                  clear sz3 hr3 kk3
                  have hsd : SortedIn ltInt a i dj := by
                    have z := Go.Sort.Ins.stop Go.Sort.swo_ltInt hins (Or.inl (by omega))
                    rwa [show i - 1 + 1 = i by omega] at z
                  clear hins
                  go_loopw [10] (fun vj wr2 => ∃ (j : Nat) (dk : Array Int), vj = .int .i64 j ∧ i < j ∧ j ≤ b ∧ dk.size = L ∧ PermIn a b d dk ∧ SortedIn ltInt a i dk ∧ Rw wr2 blk dk ∧ Kp (oneB blk) w wr2) (fun vj _ => ((b : Int) - intOf vj).toNat)
                  case atStart => exact ⟨i + 1, dj, by go_num, by omega, by omega, sz, hp, hsd, hr, kk⟩
                  case round =>
                    clear hr kk hp hsd sz
                    obtain ⟨j, dk, rfl, hj1, hj2, sz, hp, hsd, hr, kk⟩ := hrel
                    by_cases hjb : j < b
                    · have hjb' : (j : Int) < (b : Int) := by omega
                      obtain ⟨G, hG⟩ : ∃ G : Nat → Int, ∀ t, G t = dk[t]! := ⟨fun t => dk[t]!, fun _ => rfl⟩
                      have xa : wr.cell? ⟨blk, j, none⟩ = some (.int .u32 (G j)) := by rw [hG]; exact hr.cell (by omega)
                      have xb : wr.cell? ⟨blk, j - 1, none⟩ = some (.int .u32 (G (j - 1))) := by rw [hG]; exact hr.cell (by omega)
                      have ya := hr.frozen j
                      have yb := hr.frozen (j - 1)
                      have ba : (j : Int) < (L : Int) := by omega
                      have bb : (0 : Int) ≤ (j : Int) - 1 := by omega
                      have bc : (j : Int) - 1 < (L : Int) := by omega
                      have HG : Hid (∀ t, G t = dk[t]!) := hG
                      clear hG
                      go_wp2
                      go_quiet (first | (go_at_call 56; refine Calls.quiet_of_same (less_any _ _ _)))
                      go_wp2
                      · clear xa xb ya yb ba bb bc HG
                        obtain ⟨wq, hwq⟩ : ∃ wq, wq = wr.drewN nq := ⟨_, rfl⟩
                        rw [← hwq]
                        replace hr : Rw wq blk dk := by rw [hwq]; exact hr.drewN _
                        replace kk : Kp (oneB blk) w wq := by rw [hwq]; exact kk.drewN _
                        clear hwq
                        go_roundw
                        case rel => exact ⟨i, s + 1, dk, rfl, by go_num, by omega, by omega, by omega, sz, hp, hsd, hr, kk⟩
                        case measure => simp [intOf]; omega
                      · go_region
                        all_goals go_wp2
                        go_roundw
                        case rel => exact ⟨j + 1, swp dk j (j - 1), by go_num, by omega, by omega, by rw [Go.Sort.size_swp]; exact sz, Go.Sort.permIn_trans _ _ _ _ _ hp (Go.Sort.swp_permIn dk a b j (j - 1) (by omega) (by omega) (by omega) (by omega) (by omega)), Go.Sort.SortedIn.congrA hsd (fun p hp' => Go.Sort.swp_other dk j (j - 1) p (by omega) (by omega)), hr.swapN HG.out (by omega) (by omega) _, kp_swapN kk _ _⟩
                        case measure => simp [intOf]; omega
                    · have hjb' : ¬ (j : Int) < (b : Int) := by omega
                      go_wp2
                      go_roundw
                      case rel => exact ⟨i, s + 1, dk, rfl, by go_num, by omega, by omega, by omega, sz, hp, hsd, hr, kk⟩
                      case measure => simp [intOf]; omega
                · have hbi' : ¬ (2 : Int) ≤ (b : Int) - (i : Int) := by omega
                  exfalso; omega
        · have hlt' : ¬ (i : Int) < (b : Int) := by omega
          have hibe : i = b := by omega
          have hibe' : (i : Int) = (b : Int) := by omega
          go_wp2
          go_quiet (fail)
          go_wp2
          go_ret
          exact ⟨true, dk, rfl, hp, fun _ => hibe ▸ hsd, hr.drewN _, kk.drewN _⟩
    · have h5' : ¬ (s : Int) < 5 := by omega
      go_wp2
      go_ret
      exact ⟨false, dk, rfl, hp, (fun e => by cases e), hr, kk⟩
end Go.Proofs.Ytankfdcpnhociaa
