/- The library's sort at uint32: its rounds and its calls of itself. -/
import Derived.Test.YtankfdcpnhociaaRamGlue
import Derived.Deep.LoopGhost
import Derived.Deep.Cut
namespace Go.Proofs.Ytankfdcpnhociaa
open Go.ChangeShapes Go.WideShapes Go.ChangeAt Go.RowKit Go.Maps Go.Shelf
open Go.Sort (swp ltInt PermIn SortedIn insertionSort heapSort)
set_option linter.unusedVariables false

/-- The row in a world on the way, and what is left of the task. -/
structure Onw (w : World) (blk a b : Nat) (d : Array Int) (x y : Nat) (dk : Array Int) (wr : World) : Prop where
  left : Left a b d x y dk
  row : Rw wr blk dk
  kp : Kp (oneB blk) w wr

def PdqPost (w : World) (blk a b : Nat) (d : Array Int) (e : Ending) (w' : World) : Prop :=
  e = .returned (.tuple #[]) ∧ ∃ d', PermIn a b d d' ∧ SortedIn ltInt a b d' ∧ Rw w' blk d' ∧ Kp (oneB blk) w w'

def LoopR (w : World) (blk a b lim : Nat) (d : Array Int) (k : Nat) (s1 s2 s3 s8 s9 : Value) (wr : World) : Prop :=
  ∃ (x y l : Nat) (wb wp : Bool) (dk : Array Int), s1 = .int .i64 x ∧ s2 = .int .i64 y ∧ s3 = .int .i64 l ∧ s8 = .bool wb ∧ s9 = .bool wp ∧ y - x ≤ k ∧ k ≤ b - a ∧ l ≤ lim ∧ Onw w blk a b d x y dk wr

def CutA (w : World) (blk a b x y l : Nat) (d : Array Int) (s3 : Value) (wr : World) : Prop :=
  ∃ (l1 : Nat) (dk : Array Int), s3 = .int .i64 l1 ∧ l1 ≤ l ∧ Onw w blk a b d x y dk wr
def CutB (w : World) (blk a b x y : Nat) (d : Array Int) (s11 s12 : Value) (wr : World) : Prop :=
  ∃ (p t : Nat) (dk : Array Int), s11 = .int .i64 p ∧ s12 = .int .i64 t ∧ x ≤ p ∧ p < y ∧ t ≤ 2 ∧ Onw w blk a b d x y dk wr
def CutC (t : Nat) (wc : World) (s12 s68 : Value) (wr : World) : Prop := s12 = .int .i64 t ∧ (∃ c : Bool, s68 = .bool c) ∧ wr = wc
def CutD (w : World) (blk a b x y : Nat) (d : Array Int) (wr : World) : Prop := ∃ dk, Onw w blk a b d x y dk wr
def CutE (w : World) (blk a b x y p : Nat) (d dk : Array Int) (s87 : Value) (wr : World) : Prop :=
  ∃ c : Bool, s87 = .bool c ∧ (c = true → 0 < x ∧ ltInt dk[x - 1]! dk[p]! = false) ∧ Onw w blk a b d x y dk wr

set_option maxRecDepth 1000000 in
set_option maxHeartbeats 6400000 in
theorem pdq_any : ∀ (N : Nat) (w : World) (blk cap a b lim : Nat) (d : Array Int), b - a < N → Rw w blk d → a ≤ b → b ≤ d.size → d.size ≤ 16384 → lim ≤ 100 → Go.Sort.Below ltInt a b d →
    Calls Try.prog 48 #[.slice (some ⟨blk, 0, none⟩) d.size cap, .int .i64 a, .int .i64 b, .int .i64 lim] w (PdqPost w blk a b d) := by
  intro N
  induction N with
  | zero => intro _ _ _ _ _ _ _ h; exact absurd h (Nat.not_lt_zero _)
  | succ N ih =>
    intro w blk cap a b lim d hN h hab hb hs hlim hbel
    obtain ⟨L, hL⟩ : ∃ L, L = d.size := ⟨_, rfl⟩
    have hbd : b ≤ d.size := hb
    rw [← hL] at hb hs ⊢
    have HL : Hid (L = d.size) := hL
    clear hL
    go_enter Try.func48, Try.ntmps48
    go_wp2
    go_loopg [1, 2, 3, 8, 9] (b - a) (LoopR w blk a b lim d)
    case atStart => exact ⟨a, b, lim, true, true, d, rfl, rfl, rfl, rfl, rfl, Nat.le_refl _, Nat.le_refl _, Nat.le_refl _, Left.start hab hbd hbel, h, Kp.refl _ _⟩
    case round =>
      obtain ⟨x, y, l, wb, wp, dk, rfl, rfl, rfl, rfl, rfl, hk, hkN, hl, hO⟩ := hrel
      have hsz : dk.size = L := hO.left.size.trans HL.out.symm
      have hax := hO.left.ax
      have hxy := hO.left.xy
      have hyb := hO.left.yb
      obtain ⟨n, hn⟩ : ∃ n : Nat, n = y - x := ⟨_, rfl⟩
      have en : (y : Int) - (x : Int) = (n : Int) := by omega
      by_cases h12 : n ≤ 12
      · have h12z : (n : Int) ≤ 12 := by omega
        have c := ins_any wr blk cap x y dk hO.row hxy (by omega) (by omega)
        rw [hsz] at c
        have HN : Hid (n = y - x) := hn
        clear hn
        go_wp2_with fail
        refine c.mono ?_; rintro e w1 ⟨rfl, hr1, k1⟩
        go_wp2_with fail
        (try simp only [Exit.inBlock, Exit.then]); refine bodyPost_ret (results_none rfl _ _ _) rfl ?_
        have hh := Go.Sort.insertionSort_holds swo dk x y hxy (by omega)
        obtain ⟨q1, q2⟩ := hO.left.whole _ hh.1 hh.2
        exact ⟨rfl, _, q1, q2, hr1, hO.kp.trans k1⟩
      · have h12z : ¬ ((n : Int) ≤ 12) := by omega
        have n8 : x + 12 < y := by omega
        have HN : Hid (n = y - x) := hn
        clear hn
        by_cases hl0 : l = 0
        · subst hl0
          have c := heap_any wr blk cap x y dk hO.row (by omega) (by omega) (by omega)
          rw [hsz] at c
          go_wp2_with fail
          refine c.mono ?_; rintro e w1 ⟨rfl, hr1, k1⟩
          go_wp2_with fail
          (try simp only [Exit.inBlock, Exit.then]); refine bodyPost_ret (results_none rfl _ _ _) rfl ?_
          have hh := Go.Sort.heapSort_holds swo dk x y hxy (by omega)
          obtain ⟨q1, q2⟩ := hO.left.whole _ hh.1 hh.2
          exact ⟨rfl, _, q1, q2, hr1, hO.kp.trans k1⟩
        · have hl0z : ¬ ((l : Int) = 0) := by omega
          go_upto_if 35 with fail
          go_cut [3] from 19 (CutA w blk a b x y l d)
          case first =>
            cases wb
            · have c := brk_any wr blk cap x y dk hO.row n8 (by omega) (by omega)
              rw [hsz] at c
              go_wp2_with fail
              refine c.mono ?_; rintro e w1 ⟨rfl, d1, p1, hr1, k1⟩
              go_wp2_with fail
              go_meet
              case rel => exact ⟨l - 1, d1, by congr 1; omega, by omega, hO.left.perm p1, hr1, hO.kp.trans k1⟩
            · go_wp2_with fail
              go_meet
              case rel => exact ⟨l, dk, rfl, Nat.le_refl _, hO⟩
          case rest =>
            clear hO hsz dk
            obtain ⟨l1, d1, rfl, hl1, hO⟩ := hcut
            have hsz : d1.size = L := hO.left.size.trans HL.out.symm
            have c := choose_any wc blk cap x y d1 hO.row n8 (by omega) (by omega)
            rw [hsz] at c
            go_upto_if 50 with fail
            refine c.mono ?_; rintro e w2 ⟨p, t, rfl, p0, p1, t2, hr2, k2⟩
            have hO2 : Onw w blk a b d x y d1 w2 := ⟨hO.left, hr2, hO.kp.over k2 (fun j hj e => e.elim)⟩
            clear hO c k2 hr2
            go_upto_if 50 with fail
            go_cut [11, 12] from 19 (CutB w blk a b x y d)
            case first =>
              by_cases ht : t = 2
              · subst ht
                have c := rev_any w2 blk cap x y d1 hO2.row (by omega) (by omega) (by omega)
                rw [hsz] at c
                go_wp2_with fail
                refine c.mono ?_; rintro e w3 ⟨rfl, d2, q1, hr3, k3⟩
                go_wp2_with fail
                go_meet
                case rel => exact ⟨y - 1 - (p - x), 1, d2, by congr 1; omega, rfl, by omega, by omega, by omega, hO2.left.perm q1, hr3, hO2.kp.trans k3⟩
              · have htz : ¬ ((t : Int) = 2) := by omega
                go_wp2_with fail
                go_meet
                case rel => exact ⟨p, t, d1, rfl, rfl, p0, p1, t2, hO2⟩
            case rest =>
              clear hO2 hsz d1 p0 p1 t2 p t
              obtain ⟨p, t, d2, rfl, rfl, p0, p1, t2, hO2⟩ := hcut
              have hsz : d2.size = L := hO2.left.size.trans HL.out.symm
              go_upto_region 15 with fail
              go_cut [12, 68] from 19 (CutC t wc)
              case first =>
                by_cases ht : (t : Int) = 1
                · cases wb <;> cases wp <;> (go_wp2_with fail; go_meet; exact ⟨rfl, ⟨_, rfl⟩, rfl⟩)
                · cases wb <;> cases wp <;> (go_wp2_with fail; go_meet; exact ⟨rfl, ⟨_, rfl⟩, rfl⟩)
              case rest =>
                obtain ⟨rfl, ⟨cc, rfl⟩, rfl⟩ := hcut
                go_upto_if 68 with fail
                go_cut [] from 19 (CutD w blk a b x y d)
                case first =>
                  cases cc
                  · go_wp2_with fail
                    go_meet
                    case rel => exact ⟨d2, hO2⟩
                  · have c := pins_any wc blk cap x y d2 hO2.row (by omega) (by omega) (by omega) hO2.left.below
                    rw [hsz] at c
                    go_wp2_with fail
                    refine c.mono ?_; rintro e w4 ⟨r, d3, rfl, q1, q2, hr4, k4⟩
                    cases r
                    · go_wp2_with fail
                      go_meet
                      case rel => exact ⟨d3, hO2.left.perm q1, hr4, hO2.kp.trans k4⟩
                    · go_wp2_with fail
                      (try simp only [Exit.inBlock, Exit.then]); refine bodyPost_ret (results_none rfl _ _ _) rfl ?_
                      obtain ⟨z1, z2⟩ := hO2.left.whole _ q1 (q2 (by first | rfl | trivial))
                      exact ⟨rfl, _, z1, z2, hr4, hO2.kp.trans k4⟩
                case rest =>
                  clear hO2 hsz d2
                  obtain ⟨d3, hO3⟩ := hcut
                  have hsz : d3.size = L := hO3.left.size.trans HL.out.symm
                  go_upto_region 17 with fail
                  go_cut [87] from 19 (CutE w blk a b x y p d d3)
                  case first =>
                    obtain ⟨G, hG⟩ : ∃ G : Nat → Int, ∀ t, G t = d3[t]! := ⟨fun t => d3[t]!, fun _ => rfl⟩
                    have xp : wc.cell? ⟨blk, p, none⟩ = some (.int .u32 (G p)) := by rw [hG]; exact hO3.row.cell (by omega)
                    have bp : (p : Int) < (L : Int) := by omega
                    have HG : Hid (∀ t, G t = d3[t]!) := hG
                    clear hG
                    rcases Nat.eq_zero_or_pos x with ha0 | ha0
                    · have ha0z : decide ((x : Int) > 0) = false := decide_eq_false (by omega)
                      go_big_quiet (first | (go_at_call 56; refine Calls.quiet_of_same (less_any _ _ _)))
                      go_wp2_with fail
                      go_meet
                      case rel => exact ⟨false, rfl, fun e => (by cases e), hO3.left, hO3.row.drewN _, hO3.kp.drewN _⟩
                    · have ha0z : (x : Int) > 0 := by omega
                      obtain ⟨x1, hx1⟩ : ∃ x1 : Nat, x1 = x - 1 := ⟨_, rfl⟩
                      have ex1 : (x : Int) - 1 = (x1 : Int) := by omega
                      have xq : wc.cell? ⟨blk, x1, none⟩ = some (.int .u32 (G x1)) := by rw [HG.out]; exact hO3.row.cell (by omega)
                      have bq : (x1 : Int) < (L : Int) := by omega
                      have HX : Hid (x1 = x - 1) := hx1
                      clear hx1
                      go_big_quiet (first | (go_at_call 56; refine Calls.quiet_of_same (less_any _ _ _)))
                      go_wp2_with fail
                      go_meet
                      case rel =>
                        refine ⟨!ltInt (G x1) (G p), rfl, fun e => ⟨ha0, ?_⟩, hO3.left, hO3.row.drewN _, hO3.kp.drewN _⟩
                        rw [← HX.out, ← HG.out, ← HG.out]
                        simpa using e
                  case rest =>
                    obtain ⟨cc2, rfl, hcc, hO4⟩ := hcut
                    clear hO3
                    cases cc2
                    · have c := part_any wc blk cap x y p d3 hO4.row p0 p1 (by omega) (by omega)
                      rw [hsz] at c
                      go_upto_if 113 with fail
                      refine c.mono ?_; rintro e w7 ⟨mid, al, d4, rfl, m0, m1, q1, lo, hi, hr7, k7⟩
                      obtain ⟨b1, b2, f1, f2⟩ := hO4.left.part m0 m1 q1 lo hi
                      have hsz4 : d4.size = L := q1.1.trans hsz
                      have k8 := hO4.kp.trans k7
                      clear c lo hi k7 hO4
                      go_upto_if 113 with fail
                      by_cases h4 : mid - x < y - mid
                      · have h4z : (mid : Int) - (x : Int) < (y : Int) - (mid : Int) := by omega
                        have hih := ih w7 blk cap x mid l1 d4 (by omega) hr7 m0 (by omega) (by omega) (by omega) b1
                        rw [hsz4] at hih
                        go_wp2_with fail
                        refine hih.mono ?_; rintro e w8 ⟨rfl, d5, z1, z2, hr8, k9⟩
                        go_wp2_with fail
                        go_roundg (y - (mid + 1))
                        case measure => omega
                        case rel => exact ⟨mid + 1, y, l1, _, al, d5, by go_num, rfl, rfl, rfl, rfl, Nat.le_refl _, by omega, by omega, f1 _ z1 z2, hr8, k8.trans k9⟩
                      · have h4z : ¬ ((mid : Int) - (x : Int) < (y : Int) - (mid : Int)) := by omega
                        have hih := ih w7 blk cap (mid + 1) y l1 d4 (by omega) hr7 (by omega) (by omega) (by omega) (by omega) b2
                        rw [hsz4] at hih
                        go_wp2_with fail
                        refine hih.mono ?_; rintro e w8 ⟨rfl, d5, z1, z2, hr8, k9⟩
                        go_wp2_with fail
                        go_roundg (mid - x)
                        case measure => omega
                        case rel => exact ⟨x, mid, l1, _, al, d5, rfl, rfl, rfl, rfl, rfl, Nat.le_refl _, by omega, by omega, f2 _ z1 z2, hr8, k8.trans k9⟩
                    · obtain ⟨x0, hlt⟩ := hcc rfl
                      have c := peq_any wc blk cap x y p d3 hO4.row p0 p1 (by omega) (by omega)
                      rw [hsz] at c
                      go_wp2_with fail
                      refine c.mono ?_; rintro e w7 ⟨mid, d4, rfl, m0, m1, q1, lo, hi, hr7, k7⟩
                      have hL4 := hO4.left.peq x0 p0 p1 hlt m0 m1 q1 lo hi
                      have k8 := hO4.kp.trans k7
                      clear c lo hi k7 hO4 hlt
                      go_wp2_with fail
                      go_roundg (y - mid)
                      case measure => omega
                      case rel => exact ⟨mid, y, l1, wb, wp, d4, rfl, rfl, rfl, rfl, rfl, Nat.le_refl _, by omega, by omega, hL4, hr7, k8⟩
end Go.Proofs.Ytankfdcpnhociaa
