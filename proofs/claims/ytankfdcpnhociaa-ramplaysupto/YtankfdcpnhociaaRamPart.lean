/- The partitions of the library's sort at uint32. -/
import Derived.Test.YtankfdcpnhociaaRamHeap
namespace Go.Proofs.Ytankfdcpnhociaa
open Go.ChangeShapes Go.WideShapes Go.ChangeAt Go.RowKit Go.Maps Go.Shelf
open Go.Sort (swp ltInt PermIn SortedIn)
set_option linter.unusedVariables false

/-- How far a partition has come: what has been passed from below is of P, what has been passed from above is not. -/
structure Part (P : Int → Bool) (d : Array Int) (a b i j : Nat) (dk : Array Int) : Prop where
  perm : PermIn a b d dk
  head : dk[a]! = d[a]!
  lo : ∀ t, a < t → t < i → P dk[t]! = true
  hi : ∀ t, j < t → t < b → P dk[t]! = false
  ai : a < i
  ij : i ≤ j + 1
  jb : j < b

theorem Part.size {P : Int → Bool} {d dk : Array Int} {a b i j : Nat} (h : Part P d a b i j dk) : dk.size = d.size := h.perm.1

theorem part_start (P : Int → Bool) (d : Array Int) (a b : Nat) (h : a < b) : Part P d a b (a + 1) (b - 1) d :=
  ⟨Go.Sort.permIn_refl _ _ _, rfl, fun t h1 h2 => by omega, fun t h1 h2 => by omega, by omega, by omega, by omega⟩

theorem Part.up {P : Int → Bool} {d dk : Array Int} {a b i j : Nat} (h : Part P d a b i j dk) (hij : i ≤ j) (hp : P dk[i]! = true) : Part P d a b (i + 1) j dk :=
  ⟨h.perm, h.head, fun t h1 h2 => by rcases (by omega : t < i ∨ t = i) with e | e; exact h.lo t h1 e; exact e ▸ hp, h.hi, by have := h.ai; omega, by omega, h.jb⟩

theorem Part.down {P : Int → Bool} {d dk : Array Int} {a b i j : Nat} (h : Part P d a b i j dk) (hij : i ≤ j) (hp : P dk[j]! = false) : Part P d a b i (j - 1) dk :=
  ⟨h.perm, h.head, h.lo, fun t h1 h2 => by have := h.ai; rcases (by omega : j < t ∨ t = j) with e | e; exact h.hi t e h2; exact e ▸ hp, h.ai, by have := h.ai; omega, by have := h.jb; omega⟩

theorem Part.swap {P : Int → Bool} {d dk : Array Int} {a b i j : Nat} (h : Part P d a b i j dk) (hb : b ≤ d.size) (hij : i ≤ j) (hi : P dk[i]! = false) (hj : P dk[j]! = true) : i < j ∧ Part P d a b (i + 1) (j - 1) (swp dk i j) := by
  have hlt : i < j := by
    rcases (by omega : i < j ∨ i = j) with e | e
    · exact e
    · subst e; rw [hi] at hj; cases hj
  have sz := h.size
  have := h.ai
  have := h.jb
  refine ⟨hlt, Go.Sort.permIn_trans _ _ _ _ _ h.perm (Go.Sort.swp_permIn dk a b i j (by omega) (by omega) (by omega) (by omega) (by omega)), ?_, ?_, ?_, by omega, by omega, by omega⟩
  · rw [Go.Sort.swp_other dk i j a (by omega) (by omega)]; exact h.head
  · intro t h1 h2
    rcases (by omega : t < i ∨ t = i) with e | e
    · rw [Go.Sort.swp_other dk i j t (by omega) (by omega)]; exact h.lo t h1 e
    · subst e; rw [Go.Sort.swp_left dk t j (by omega) (by omega)]; exact hj
  · intro t h1 h2
    rcases (by omega : j < t ∨ t = j) with e | e
    · rw [Go.Sort.swp_other dk i j t (by omega) (by omega)]; exact h.hi t e h2
    · subst e; rw [Go.Sort.swp_right dk i t (by omega)]; exact hi

theorem Part.fin {P : Int → Bool} {d dk : Array Int} {a b i j : Nat} (h : Part P d a b i j dk) (hP : ∀ x, P x = ltInt x d[a]!) (hb : b ≤ d.size) (hji : j < i) :
    a ≤ j ∧ PermIn a b d (swp dk j a) ∧ (∀ t, a ≤ t → t < j → ltInt (swp dk j a)[t]! (swp dk j a)[j]! = true) ∧ (∀ t, j < t → t < b → ltInt (swp dk j a)[t]! (swp dk j a)[j]! = false) := by
  have sz := h.size
  have h1 := h.ai
  have h2 := h.ij
  have h3 := h.jb
  have hj : (swp dk j a)[j]! = d[a]! := by
    rw [← h.head]
    rcases (by omega : j = a ∨ j ≠ a) with e | e
    · subst e; rw [Go.Sort.swp_right dk j j (by omega)]
    · rw [Go.Sort.swp_left dk j a (by omega) e]
  refine ⟨by omega, Go.Sort.permIn_trans _ _ _ _ _ h.perm (Go.Sort.swp_permIn dk a b j a (by omega) (by omega) (by omega) (by omega) (by omega)), fun t g1 g2 => ?_, fun t g1 g2 => ?_⟩
  · rw [hj, ← hP]
    rcases (by omega : t = a ∨ a < t) with e | e
    · subst e; rw [Go.Sort.swp_right dk j t (by omega)]; exact h.lo j (by omega) (by omega)
    · rw [Go.Sort.swp_other dk j a t (by omega) (by omega)]; exact h.lo t e (by omega)
  · rw [hj, ← hP, Go.Sort.swp_other dk j a t (by omega) (by omega)]
    exact h.hi t g1 g2


set_option maxRecDepth 100000 in
set_option maxHeartbeats 8000000 in
theorem peq_any (w : World) (blk cap a b pivot : Nat) (d : Array Int) (h : Rw w blk d) (hap : a ≤ pivot) (hpb : pivot < b) (hb : b ≤ d.size) (hs : d.size ≤ 16384) :
    Calls Try.prog 57 #[.slice (some ⟨blk, 0, none⟩) d.size cap, .int .i64 a, .int .i64 b, .int .i64 pivot] w fun e w' =>
      ∃ (mid : Nat) (d' : Array Int), e = .returned (.int .i64 mid) ∧ a < mid ∧ mid ≤ b ∧ PermIn a b d d' ∧ (∀ t, a ≤ t → t < mid → ltInt d[pivot]! d'[t]! = false) ∧ (∀ t, mid ≤ t → t < b → ltInt d[pivot]! d'[t]! = true) ∧ Rw w' blk d' ∧ Kp (oneB blk) w w' := by
  obtain ⟨L, hL⟩ : ∃ L, L = d.size := ⟨_, rfl⟩
  rw [← hL] at hb hs ⊢
  obtain ⟨dz, hdz⟩ : ∃ dz, dz = swp d a pivot := ⟨_, rfl⟩
  have hz1 : dz.size = L := by rw [hdz, Go.Sort.size_swp]; exact hL.symm
  have hz2 : dz[a]! = d[pivot]! := by
    rw [hdz]
    rcases (by omega : a = pivot ∨ a ≠ pivot) with e | e
    · subst e; rw [Go.Sort.swp_right d a a (by omega)]
    · rw [Go.Sort.swp_left d a pivot (by omega) e]
  have hz3 : PermIn a b d dz := by rw [hdz]; exact Go.Sort.swp_permIn d a b a pivot (by omega) (by omega) (by omega) (by omega) (by omega)
  obtain ⟨G0, hG0⟩ : ∃ G0 : Nat → Int, ∀ t, G0 t = d[t]! := ⟨fun t => d[t]!, fun _ => rfl⟩
  have x1 : w.cell? ⟨blk, a, none⟩ = some (.int .u32 (G0 a)) := by rw [hG0]; exact h.cell (by omega)
  have x2 : w.cell? ⟨blk, pivot, none⟩ = some (.int .u32 (G0 pivot)) := by rw [hG0]; exact h.cell (by omega)
  have y1 := h.frozen a
  have y2 := h.frozen pivot
  have b1 : (a : Int) < (L : Int) := by omega
  have b2 : (pivot : Int) < (L : Int) := by omega
  have SWP : Hid (∀ n, Rw (((w.drewN n).setCell ⟨blk, a, none⟩ (.int .u32 (G0 pivot))).setCell ⟨blk, pivot, none⟩ (.int .u32 (G0 a))) blk dz) := fun n => by rw [hdz]; exact h.swapN hG0 (by omega) (by omega) n
  have HZ : Hid (dz[a]! = d[pivot]! ∧ PermIn a b d dz) := ⟨hz2, hz3⟩
  obtain ⟨P, hP⟩ : ∃ P : Int → Bool, ∀ x, P x = (!ltInt dz[a]! x) := ⟨fun x => !ltInt dz[a]! x, fun _ => rfl⟩
  have HPP : Hid (∀ x, P x = (!ltInt dz[a]! x)) := hP
  clear hdz hz2 hz3 hL hG0 hP
  by_cases hpa : a = pivot
  · subst hpa
    go_enter Try.func57, Try.ntmps57
    go_wp2
    go_region
    all_goals go_wp2_with fail
    have hr := SWP.out (0 + 1)
    have kk : Kp (oneB blk) w (((w.drewN (0 + 1)).setCell ⟨blk, a, none⟩ (.int .u32 (G0 a))).setCell ⟨blk, a, none⟩ (.int .u32 (G0 a))) := kp_swapN (Kp.refl _ _) _ _
    obtain ⟨wz, hwz⟩ : ∃ wz, wz = (((w.drewN (0 + 1)).setCell ⟨blk, a, none⟩ (.int .u32 (G0 a))).setCell ⟨blk, a, none⟩ (.int .u32 (G0 a))) := ⟨_, rfl⟩
    rw [← hwz] at hr kk
    have HWZ : Hid (wz = (((w.drewN (0 + 1)).setCell ⟨blk, a, none⟩ (.int .u32 (G0 a))).setCell ⟨blk, a, none⟩ (.int .u32 (G0 a)))) := hwz
    clear hwz x1 x2 y1 y2
    rw [show ((w.setCell ⟨blk, a, none⟩ (.int .u32 (G0 a))).setCell ⟨blk, a, none⟩ (.int .u32 (G0 a))).drew = wz from HWZ.out.symm]
    clear HWZ SWP
    go_loopw [9, 10] (fun vi vj wr => ∃ (i j : Nat) (dk : Array Int), vi = .int .i64 i ∧ vj = .int .i64 j ∧ Part P dz a b i j dk ∧ Rw wr blk dk ∧ Kp (oneB blk) w wr ∧ dk.size = L) (fun vi vj _ => (intOf vj + 1 - intOf vi).toNat)
    case atStart => exact ⟨a + 1, b - 1, dz, by go_num, by congr 1; omega, part_start P dz a b (by omega), hr, kk, hz1⟩
    case round =>
      clear hr kk
      obtain ⟨i0, j0, dk, rfl, rfl, hp, hr, kk, sz⟩ := hrel
      have p1 := hp.ai
      have p2 := hp.ij
      have p3 := hp.jb
      go_wp2
      go_loopw [9] (fun vi wr2 => ∃ i : Nat, vi = .int .i64 i ∧ i0 ≤ i ∧ Part P dz a b i j0 dk ∧ Rw wr2 blk dk ∧ Kp (oneB blk) w wr2) (fun vi _ => ((j0 : Int) + 1 - intOf vi).toNat)
      case atStart => exact ⟨i0, rfl, Nat.le_refl _, hp, hr, kk⟩
      case round =>
        clear hp hr kk p1 p2 p3
        obtain ⟨i, rfl, bdi, hp, hr, kk⟩ := hrel
        have p1 := hp.ai
        have p2 := hp.ij
        have p3 := hp.jb
        by_cases hij : i ≤ j0
        · have hij' : (i : Int) ≤ (j0 : Int) := by omega
          obtain ⟨G, hG⟩ : ∃ G : Nat → Int, ∀ t, G t = dk[t]! := ⟨fun t => dk[t]!, fun _ => rfl⟩
          have xa : wr.cell? ⟨blk, a, none⟩ = some (.int .u32 (G a)) := by rw [hG]; exact hr.cell (by omega)
          have xi : wr.cell? ⟨blk, i, none⟩ = some (.int .u32 (G i)) := by rw [hG]; exact hr.cell (by omega)
          have ya := hr.frozen a
          have yi := hr.frozen i
          have bi : (i : Int) < (L : Int) := by omega
          have HG : Hid (∀ t, G t = dk[t]!) := hG
          clear hG
          have HH : Hid (G a = dz[a]!) := show _ = _ by rw [HG.out]; exact hp.head
          go_wp2
          go_quiet (first | (go_at_call 56; refine Calls.quiet_of_same (less_any _ _ _)))
          go_wp2
          · have hm : (!ltInt (G a) (G i)) = true := by assumption
            have hup := hp.up hij (show P dk[i]! = true from (by have z := hm; rw [HPP.out, ← HH.out, ← HG.out]; simpa using z))
            go_roundw
            case rel => exact ⟨i + 1, by go_num, by omega, hup, hr.drewN _, kk.drewN _⟩
            case measure => simp [intOf]; omega
          · have hm : (!ltInt (G a) (G i)) = false := by assumption
            have st1 : Hid (j0 < i ∨ P dk[i]! = false) := Or.inr (show P dk[i]! = false from (by have z := hm; rw [HPP.out, ← HH.out, ← HG.out]; simpa using z))
            clear xa xi ya yi HG HH hm bi
            obtain ⟨wq, hwq⟩ : ∃ wq, wq = wr.drewN nq := ⟨_, rfl⟩
            rw [← hwq]
            replace hr : Rw wq blk dk := by rw [hwq]; exact hr.drewN _
            replace kk : Kp (oneB blk) w wq := by rw [hwq]; exact kk.drewN _
            clear hwq
            go_wp2
            go_loopw [10] (fun vj wr2 => ∃ j : Nat, vj = .int .i64 j ∧ j ≤ j0 ∧ Part P dz a b i j dk ∧ Rw wr2 blk dk ∧ Kp (oneB blk) w wr2 ∧ (j < i ∨ P dk[i]! = false)) (fun vj _ => (intOf vj + 1 - (i : Int)).toNat)
            case atStart => exact ⟨j0, rfl, Nat.le_refl _, hp, hr, kk, st1.out⟩
            case round =>
              clear hp hr kk p1 p2 p3 st1
              obtain ⟨j, rfl, bdj, hp, hr, kk, st1⟩ := hrel
              have st1 : Hid (j < i ∨ P dk[i]! = false) := st1
              have p1 := hp.ai
              have p2 := hp.ij
              have p3 := hp.jb
              by_cases hij : i ≤ j
              · have hij' : (i : Int) ≤ (j : Int) := by omega
                obtain ⟨G, hG⟩ : ∃ G : Nat → Int, ∀ t, G t = dk[t]! := ⟨fun t => dk[t]!, fun _ => rfl⟩
                have xa : wr.cell? ⟨blk, a, none⟩ = some (.int .u32 (G a)) := by rw [hG]; exact hr.cell (by omega)
                have xi : wr.cell? ⟨blk, j, none⟩ = some (.int .u32 (G j)) := by rw [hG]; exact hr.cell (by omega)
                have ya := hr.frozen a
                have yi := hr.frozen j
                have bi : (j : Int) < (L : Int) := by omega
                have HG : Hid (∀ t, G t = dk[t]!) := hG
                clear hG
                have HH : Hid (G a = dz[a]!) := show _ = _ by rw [HG.out]; exact hp.head
                go_wp2
                go_quiet (first | (go_at_call 56; refine Calls.quiet_of_same (less_any _ _ _)))
                go_wp2
                · have hm : ltInt (G a) (G j) = true := by assumption
                  have hup := hp.down hij (show P dk[j]! = false from (by have z := hm; rw [HPP.out, ← HH.out, ← HG.out]; simpa using z))
                  go_roundw
                  case rel => exact ⟨j - 1, by congr 1; omega, by omega, hup, hr.drewN _, kk.drewN _, by rcases st1.out with z | z; exact Or.inl (by omega); exact Or.inr z⟩
                  case measure => simp [intOf]; omega
                · have hm : ltInt (G a) (G j) = false := by assumption
                  have st2 : Hid (j < i ∨ P dk[j]! = true) := Or.inr (show P dk[j]! = true from (by have z := hm; rw [HPP.out, ← HH.out, ← HG.out]; simpa using z))
                  clear xa xi ya yi HG HH hm bi
                  obtain ⟨wq, hwq⟩ : ∃ wq, wq = wr.drewN nq := ⟨_, rfl⟩
                  rw [← hwq]
                  replace hr : Rw wq blk dk := by rw [hwq]; exact hr.drewN _
                  replace kk : Kp (oneB blk) w wq := by rw [hwq]; exact kk.drewN _
                  clear hwq
                  have hgt' : ¬ (j : Int) < (i : Int) := by omega
                  have hsw := hp.swap (by omega) hij (by rcases st1.out with z | z; omega; exact z) (by rcases st2.out with z | z; omega; exact z)
                  have hne : ¬ i = j := by omega
                  have hne' : ¬ j = i := by omega
                  obtain ⟨G, hG⟩ : ∃ G : Nat → Int, ∀ t, G t = dk[t]! := ⟨fun t => dk[t]!, fun _ => rfl⟩
                  have xi : wq.cell? ⟨blk, i, none⟩ = some (.int .u32 (G i)) := by rw [hG]; exact hr.cell (by omega)
                  have xj : wq.cell? ⟨blk, j, none⟩ = some (.int .u32 (G j)) := by rw [hG]; exact hr.cell (by omega)
                  have yi := hr.frozen i
                  have yj := hr.frozen j
                  have bi : (i : Int) < (L : Int) := by omega
                  have bj : (j : Int) < (L : Int) := by omega
                  have HG : Hid (∀ t, G t = dk[t]!) := hG
                  clear hG
                  go_wp2
                  go_region
                  all_goals go_wp2
                  go_roundw
                  case rel => exact ⟨i + 1, j - 1, swp dk i j, by go_num, by congr 1; omega, hsw.2, hr.swapN HG.out (by omega) (by omega) _, kp_swapN kk _ _, by rw [Go.Sort.size_swp]; exact sz⟩
                  case measure => simp [intOf]; omega
              · have hij' : ¬ (i : Int) ≤ (j : Int) := by omega
                have st2 : Hid (j < i ∨ P dk[j]! = true) := Or.inl (by omega)
                go_wp2
                go_quiet (fail)
                go_wp2
                obtain ⟨wq, hwq⟩ : ∃ wq, wq = wr.drewN nq := ⟨_, rfl⟩
                rw [← hwq]
                replace hr : Rw wq blk dk := by rw [hwq]; exact hr.drewN _
                replace kk : Kp (oneB blk) w wq := by rw [hwq]; exact kk.drewN _
                clear hwq
                have hgt' : (j : Int) < (i : Int) := by omega
                go_wp2
                go_ret
                exact ⟨i, dk, rfl, p1, by omega, Go.Sort.permIn_trans _ _ _ _ _ HZ.out.2 hp.perm, fun t h1 h2 => by
                  rcases (by omega : t = a ∨ a < t) with g | g
                  · subst g; rw [hp.head, HZ.out.1]; simp [ltInt]
                  · have z := hp.lo t g h2; rw [HPP.out] at z; rw [← HZ.out.1]; simpa using z, fun t h1 h2 => by
                  have z := hp.hi t (by omega) h2; rw [HPP.out] at z; rw [← HZ.out.1]; simpa using z, hr, kk⟩
        · have hij' : ¬ (i : Int) ≤ (j0 : Int) := by omega
          have st1 : Hid (j0 < i ∨ P dk[i]! = false) := Or.inl (by omega)
          go_wp2
          go_quiet (fail)
          go_wp2
          obtain ⟨wq, hwq⟩ : ∃ wq, wq = wr.drewN nq := ⟨_, rfl⟩
          rw [← hwq]
          replace hr : Rw wq blk dk := by rw [hwq]; exact hr.drewN _
          replace kk : Kp (oneB blk) w wq := by rw [hwq]; exact kk.drewN _
          clear hwq
          go_wp2
          go_loopw [10] (fun vj wr2 => ∃ j : Nat, vj = .int .i64 j ∧ j ≤ j0 ∧ Part P dz a b i j dk ∧ Rw wr2 blk dk ∧ Kp (oneB blk) w wr2 ∧ (j < i ∨ P dk[i]! = false)) (fun vj _ => (intOf vj + 1 - (i : Int)).toNat)
          case atStart => exact ⟨j0, rfl, Nat.le_refl _, hp, hr, kk, st1.out⟩
          case round =>
            clear hp hr kk p1 p2 p3 st1
            obtain ⟨j, rfl, bdj, hp, hr, kk, st1⟩ := hrel
            have st1 : Hid (j < i ∨ P dk[i]! = false) := st1
            have p1 := hp.ai
            have p2 := hp.ij
            have p3 := hp.jb
            by_cases hij : i ≤ j
            · have hij' : (i : Int) ≤ (j : Int) := by omega
              exfalso; omega
            · have hij' : ¬ (i : Int) ≤ (j : Int) := by omega
              have st2 : Hid (j < i ∨ P dk[j]! = true) := Or.inl (by omega)
              go_wp2
              go_quiet (fail)
              go_wp2
              obtain ⟨wq, hwq⟩ : ∃ wq, wq = wr.drewN nq := ⟨_, rfl⟩
              rw [← hwq]
              replace hr : Rw wq blk dk := by rw [hwq]; exact hr.drewN _
              replace kk : Kp (oneB blk) w wq := by rw [hwq]; exact kk.drewN _
              clear hwq
              have hgt' : (j : Int) < (i : Int) := by omega
              go_wp2
              go_ret
              exact ⟨i, dk, rfl, p1, by omega, Go.Sort.permIn_trans _ _ _ _ _ HZ.out.2 hp.perm, fun t h1 h2 => by
                rcases (by omega : t = a ∨ a < t) with g | g
                · subst g; rw [hp.head, HZ.out.1]; simp [ltInt]
                · have z := hp.lo t g h2; rw [HPP.out] at z; rw [← HZ.out.1]; simpa using z, fun t h1 h2 => by
                have z := hp.hi t (by omega) h2; rw [HPP.out] at z; rw [← HZ.out.1]; simpa using z, hr, kk⟩
  · have hne : ¬ pivot = a := fun g => hpa g.symm
    go_enter Try.func57, Try.ntmps57
    go_wp2
    go_region
    all_goals go_wp2_with fail
    have hr := SWP.out (0 + 1)
    have kk : Kp (oneB blk) w (((w.drewN (0 + 1)).setCell ⟨blk, a, none⟩ (.int .u32 (G0 pivot))).setCell ⟨blk, pivot, none⟩ (.int .u32 (G0 a))) := kp_swapN (Kp.refl _ _) _ _
    obtain ⟨wz, hwz⟩ : ∃ wz, wz = (((w.drewN (0 + 1)).setCell ⟨blk, a, none⟩ (.int .u32 (G0 pivot))).setCell ⟨blk, pivot, none⟩ (.int .u32 (G0 a))) := ⟨_, rfl⟩
    rw [← hwz] at hr kk
    have HWZ : Hid (wz = (((w.drewN (0 + 1)).setCell ⟨blk, a, none⟩ (.int .u32 (G0 pivot))).setCell ⟨blk, pivot, none⟩ (.int .u32 (G0 a)))) := hwz
    clear hwz x1 x2 y1 y2
    rw [show ((w.setCell ⟨blk, a, none⟩ (.int .u32 (G0 pivot))).setCell ⟨blk, pivot, none⟩ (.int .u32 (G0 a))).drew = wz from HWZ.out.symm]
    clear HWZ SWP
    go_loopw [9, 10] (fun vi vj wr => ∃ (i j : Nat) (dk : Array Int), vi = .int .i64 i ∧ vj = .int .i64 j ∧ Part P dz a b i j dk ∧ Rw wr blk dk ∧ Kp (oneB blk) w wr ∧ dk.size = L) (fun vi vj _ => (intOf vj + 1 - intOf vi).toNat)
    case atStart => exact ⟨a + 1, b - 1, dz, by go_num, by congr 1; omega, part_start P dz a b (by omega), hr, kk, hz1⟩
    case round =>
      clear hr kk
      obtain ⟨i0, j0, dk, rfl, rfl, hp, hr, kk, sz⟩ := hrel
      have p1 := hp.ai
      have p2 := hp.ij
      have p3 := hp.jb
      go_wp2
      go_loopw [9] (fun vi wr2 => ∃ i : Nat, vi = .int .i64 i ∧ i0 ≤ i ∧ Part P dz a b i j0 dk ∧ Rw wr2 blk dk ∧ Kp (oneB blk) w wr2) (fun vi _ => ((j0 : Int) + 1 - intOf vi).toNat)
      case atStart => exact ⟨i0, rfl, Nat.le_refl _, hp, hr, kk⟩
      case round =>
        clear hp hr kk p1 p2 p3
        obtain ⟨i, rfl, bdi, hp, hr, kk⟩ := hrel
        have p1 := hp.ai
        have p2 := hp.ij
        have p3 := hp.jb
        by_cases hij : i ≤ j0
        · have hij' : (i : Int) ≤ (j0 : Int) := by omega
          obtain ⟨G, hG⟩ : ∃ G : Nat → Int, ∀ t, G t = dk[t]! := ⟨fun t => dk[t]!, fun _ => rfl⟩
          have xa : wr.cell? ⟨blk, a, none⟩ = some (.int .u32 (G a)) := by rw [hG]; exact hr.cell (by omega)
          have xi : wr.cell? ⟨blk, i, none⟩ = some (.int .u32 (G i)) := by rw [hG]; exact hr.cell (by omega)
          have ya := hr.frozen a
          have yi := hr.frozen i
          have bi : (i : Int) < (L : Int) := by omega
          have HG : Hid (∀ t, G t = dk[t]!) := hG
          clear hG
          have HH : Hid (G a = dz[a]!) := show _ = _ by rw [HG.out]; exact hp.head
          go_wp2
          go_quiet (first | (go_at_call 56; refine Calls.quiet_of_same (less_any _ _ _)))
          go_wp2
          · have hm : (!ltInt (G a) (G i)) = true := by assumption
            have hup := hp.up hij (show P dk[i]! = true from (by have z := hm; rw [HPP.out, ← HH.out, ← HG.out]; simpa using z))
            go_roundw
            case rel => exact ⟨i + 1, by go_num, by omega, hup, hr.drewN _, kk.drewN _⟩
            case measure => simp [intOf]; omega
          · have hm : (!ltInt (G a) (G i)) = false := by assumption
            have st1 : Hid (j0 < i ∨ P dk[i]! = false) := Or.inr (show P dk[i]! = false from (by have z := hm; rw [HPP.out, ← HH.out, ← HG.out]; simpa using z))
            clear xa xi ya yi HG HH hm bi
            obtain ⟨wq, hwq⟩ : ∃ wq, wq = wr.drewN nq := ⟨_, rfl⟩
            rw [← hwq]
            replace hr : Rw wq blk dk := by rw [hwq]; exact hr.drewN _
            replace kk : Kp (oneB blk) w wq := by rw [hwq]; exact kk.drewN _
            clear hwq
            go_wp2
            go_loopw [10] (fun vj wr2 => ∃ j : Nat, vj = .int .i64 j ∧ j ≤ j0 ∧ Part P dz a b i j dk ∧ Rw wr2 blk dk ∧ Kp (oneB blk) w wr2 ∧ (j < i ∨ P dk[i]! = false)) (fun vj _ => (intOf vj + 1 - (i : Int)).toNat)
            case atStart => exact ⟨j0, rfl, Nat.le_refl _, hp, hr, kk, st1.out⟩
            case round =>
              clear hp hr kk p1 p2 p3 st1
              obtain ⟨j, rfl, bdj, hp, hr, kk, st1⟩ := hrel
              have st1 : Hid (j < i ∨ P dk[i]! = false) := st1
              have p1 := hp.ai
              have p2 := hp.ij
              have p3 := hp.jb
              by_cases hij : i ≤ j
              · have hij' : (i : Int) ≤ (j : Int) := by omega
                obtain ⟨G, hG⟩ : ∃ G : Nat → Int, ∀ t, G t = dk[t]! := ⟨fun t => dk[t]!, fun _ => rfl⟩
                have xa : wr.cell? ⟨blk, a, none⟩ = some (.int .u32 (G a)) := by rw [hG]; exact hr.cell (by omega)
                have xi : wr.cell? ⟨blk, j, none⟩ = some (.int .u32 (G j)) := by rw [hG]; exact hr.cell (by omega)
                have ya := hr.frozen a
                have yi := hr.frozen j
                have bi : (j : Int) < (L : Int) := by omega
                have HG : Hid (∀ t, G t = dk[t]!) := hG
                clear hG
                have HH : Hid (G a = dz[a]!) := show _ = _ by rw [HG.out]; exact hp.head
                go_wp2
                go_quiet (first | (go_at_call 56; refine Calls.quiet_of_same (less_any _ _ _)))
                go_wp2
                · have hm : ltInt (G a) (G j) = true := by assumption
                  have hup := hp.down hij (show P dk[j]! = false from (by have z := hm; rw [HPP.out, ← HH.out, ← HG.out]; simpa using z))
                  go_roundw
                  case rel => exact ⟨j - 1, by congr 1; omega, by omega, hup, hr.drewN _, kk.drewN _, by rcases st1.out with z | z; exact Or.inl (by omega); exact Or.inr z⟩
                  case measure => simp [intOf]; omega
                · have hm : ltInt (G a) (G j) = false := by assumption
                  have st2 : Hid (j < i ∨ P dk[j]! = true) := Or.inr (show P dk[j]! = true from (by have z := hm; rw [HPP.out, ← HH.out, ← HG.out]; simpa using z))
                  clear xa xi ya yi HG HH hm bi
                  obtain ⟨wq, hwq⟩ : ∃ wq, wq = wr.drewN nq := ⟨_, rfl⟩
                  rw [← hwq]
                  replace hr : Rw wq blk dk := by rw [hwq]; exact hr.drewN _
                  replace kk : Kp (oneB blk) w wq := by rw [hwq]; exact kk.drewN _
                  clear hwq
                  have hgt' : ¬ (j : Int) < (i : Int) := by omega
                  have hsw := hp.swap (by omega) hij (by rcases st1.out with z | z; omega; exact z) (by rcases st2.out with z | z; omega; exact z)
                  have hne : ¬ i = j := by omega
                  have hne' : ¬ j = i := by omega
                  obtain ⟨G, hG⟩ : ∃ G : Nat → Int, ∀ t, G t = dk[t]! := ⟨fun t => dk[t]!, fun _ => rfl⟩
                  have xi : wq.cell? ⟨blk, i, none⟩ = some (.int .u32 (G i)) := by rw [hG]; exact hr.cell (by omega)
                  have xj : wq.cell? ⟨blk, j, none⟩ = some (.int .u32 (G j)) := by rw [hG]; exact hr.cell (by omega)
                  have yi := hr.frozen i
                  have yj := hr.frozen j
                  have bi : (i : Int) < (L : Int) := by omega
                  have bj : (j : Int) < (L : Int) := by omega
                  have HG : Hid (∀ t, G t = dk[t]!) := hG
                  clear hG
                  go_wp2
                  go_region
                  all_goals go_wp2
                  go_roundw
                  case rel => exact ⟨i + 1, j - 1, swp dk i j, by go_num, by congr 1; omega, hsw.2, hr.swapN HG.out (by omega) (by omega) _, kp_swapN kk _ _, by rw [Go.Sort.size_swp]; exact sz⟩
                  case measure => simp [intOf]; omega
              · have hij' : ¬ (i : Int) ≤ (j : Int) := by omega
                have st2 : Hid (j < i ∨ P dk[j]! = true) := Or.inl (by omega)
                go_wp2
                go_quiet (fail)
                go_wp2
                obtain ⟨wq, hwq⟩ : ∃ wq, wq = wr.drewN nq := ⟨_, rfl⟩
                rw [← hwq]
                replace hr : Rw wq blk dk := by rw [hwq]; exact hr.drewN _
                replace kk : Kp (oneB blk) w wq := by rw [hwq]; exact kk.drewN _
                clear hwq
                have hgt' : (j : Int) < (i : Int) := by omega
                go_wp2
                go_ret
                exact ⟨i, dk, rfl, p1, by omega, Go.Sort.permIn_trans _ _ _ _ _ HZ.out.2 hp.perm, fun t h1 h2 => by
                  rcases (by omega : t = a ∨ a < t) with g | g
                  · subst g; rw [hp.head, HZ.out.1]; simp [ltInt]
                  · have z := hp.lo t g h2; rw [HPP.out] at z; rw [← HZ.out.1]; simpa using z, fun t h1 h2 => by
                  have z := hp.hi t (by omega) h2; rw [HPP.out] at z; rw [← HZ.out.1]; simpa using z, hr, kk⟩
        · have hij' : ¬ (i : Int) ≤ (j0 : Int) := by omega
          have st1 : Hid (j0 < i ∨ P dk[i]! = false) := Or.inl (by omega)
          go_wp2
          go_quiet (fail)
          go_wp2
          obtain ⟨wq, hwq⟩ : ∃ wq, wq = wr.drewN nq := ⟨_, rfl⟩
          rw [← hwq]
          replace hr : Rw wq blk dk := by rw [hwq]; exact hr.drewN _
          replace kk : Kp (oneB blk) w wq := by rw [hwq]; exact kk.drewN _
          clear hwq
          go_wp2
          go_loopw [10] (fun vj wr2 => ∃ j : Nat, vj = .int .i64 j ∧ j ≤ j0 ∧ Part P dz a b i j dk ∧ Rw wr2 blk dk ∧ Kp (oneB blk) w wr2 ∧ (j < i ∨ P dk[i]! = false)) (fun vj _ => (intOf vj + 1 - (i : Int)).toNat)
          case atStart => exact ⟨j0, rfl, Nat.le_refl _, hp, hr, kk, st1.out⟩
          case round =>
            clear hp hr kk p1 p2 p3 st1
            obtain ⟨j, rfl, bdj, hp, hr, kk, st1⟩ := hrel
            have st1 : Hid (j < i ∨ P dk[i]! = false) := st1
            have p1 := hp.ai
            have p2 := hp.ij
            have p3 := hp.jb
            by_cases hij : i ≤ j
            · have hij' : (i : Int) ≤ (j : Int) := by omega
              exfalso; omega
            · have hij' : ¬ (i : Int) ≤ (j : Int) := by omega
              have st2 : Hid (j < i ∨ P dk[j]! = true) := Or.inl (by omega)
              go_wp2
              go_quiet (fail)
              go_wp2
              obtain ⟨wq, hwq⟩ : ∃ wq, wq = wr.drewN nq := ⟨_, rfl⟩
              rw [← hwq]
              replace hr : Rw wq blk dk := by rw [hwq]; exact hr.drewN _
              replace kk : Kp (oneB blk) w wq := by rw [hwq]; exact kk.drewN _
              clear hwq
              have hgt' : (j : Int) < (i : Int) := by omega
              go_wp2
              go_ret
              exact ⟨i, dk, rfl, p1, by omega, Go.Sort.permIn_trans _ _ _ _ _ HZ.out.2 hp.perm, fun t h1 h2 => by
                rcases (by omega : t = a ∨ a < t) with g | g
                · subst g; rw [hp.head, HZ.out.1]; simp [ltInt]
                · have z := hp.lo t g h2; rw [HPP.out] at z; rw [← HZ.out.1]; simpa using z, fun t h1 h2 => by
                have z := hp.hi t (by omega) h2; rw [HPP.out] at z; rw [← HZ.out.1]; simpa using z, hr, kk⟩
end Go.Proofs.Ytankfdcpnhociaa
