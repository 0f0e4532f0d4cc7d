/- Heap sort at uint32. -/
import Derived.Test.YtankfdcpnhociaaRamRow
namespace Go.Proofs.Ytankfdcpnhociaa
open Go.ChangeShapes Go.WideShapes Go.ChangeAt Go.RowKit Go.Maps Go.Shelf
open Go.Sort (swp ltInt siftDown heapBuild heapPop heapSort)
set_option linter.unusedVariables false

/-- The greater of the two children. -/
def kid (hi first r : Nat) (d : Array Int) : Nat := if 2 * r + 1 + 1 < hi ∧ ltInt d[first + (2 * r + 1)]! d[first + (2 * r + 1) + 1]! = true then 2 * r + 2 else 2 * r + 1

theorem sift_out (hi first r : Nat) (d : Array Int) (h : hi ≤ 2 * r + 1) : siftDown ltInt hi first r d = d := by
  rw [siftDown, dif_pos (by omega)]

theorem sift_on (hi first r : Nat) (d : Array Int) (h : 2 * r + 1 < hi) : siftDown ltInt hi first r d = if ltInt d[first + r]! d[first + kid hi first r d]! = true then siftDown ltInt hi first (kid hi first r d) (swp d (first + r) (first + kid hi first r d)) else d := by
  rw [siftDown, dif_neg (by omega)]
  unfold kid
  by_cases c : 2 * r + 1 + 1 < hi ∧ ltInt d[first + (2 * r + 1)]! d[first + (2 * r + 1) + 1]! = true
  · rw [if_pos (by simp [c.1, c.2]), if_pos c, dif_pos (by omega)]
    cases e : ltInt d[first + r]! d[first + (2 * r + 2)]! <;> simp
  · rw [if_neg (by simpa using c), if_neg c]
    cases e : ltInt d[first + r]! d[first + (2 * r + 1)]! <;> simp

theorem size_sift (hi first : Nat) : ∀ (n r : Nat) (d : Array Int), hi - r ≤ n → (siftDown ltInt hi first r d).size = d.size
  | 0, r, d, h => by rw [sift_out hi first r d (by omega)]
  | n + 1, r, d, h => by
    by_cases c : 2 * r + 1 < hi
    · rw [sift_on hi first r d c]
      split
      · have hk : r < kid hi first r d := by unfold kid; split <;> omega
        rw [size_sift hi first n _ _ (by omega), Go.Sort.size_swp]
      · rfl
    · rw [sift_out hi first r d (by omega)]

theorem sift_right {hi first r c fc fr fd c1 : Nat} {dk : Array Int} {G : Nat → Int} (hG : ∀ t, G t = dk[t]!) (q : c = 2 * r + 1 ∧ fc = first + c ∧ fr = first + r ∧ fd = fc + 1 ∧ c1 = c + 1) (hch : c < hi) (hc1 : c1 < hi) (hl : ltInt (G fc) (G fd) = true) :
    siftDown ltInt hi first r dk = if ltInt (G fr) (G fd) = true then siftDown ltInt hi first c1 (swp dk fr fd) else dk := by
  have hk : kid hi first r dk = c1 := by
    unfold kid
    rw [if_pos ⟨by omega, by rw [← q.1, ← q.2.1, ← q.2.2.2.1, ← hG, ← hG]; exact hl⟩]; omega
  have hx : first + kid hi first r dk = fd := by rw [hk]; omega
  rw [sift_on hi first r dk (by omega), hx, hk, ← q.2.2.1, ← hG, ← hG]

theorem sift_left {hi first r c fc fr fd c1 : Nat} {dk : Array Int} {G : Nat → Int} (hG : ∀ t, G t = dk[t]!) (q : c = 2 * r + 1 ∧ fc = first + c ∧ fr = first + r ∧ fd = fc + 1 ∧ c1 = c + 1) (hch : c < hi) (hl : ¬ c1 < hi ∨ ltInt (G fc) (G fd) = false) :
    siftDown ltInt hi first r dk = if ltInt (G fr) (G fc) = true then siftDown ltInt hi first c (swp dk fr fc) else dk := by
  have hk : kid hi first r dk = c := by
    unfold kid
    rw [if_neg]
    · exact q.1.symm
    · intro g
      rcases hl with hl | hl
      · omega
      · have g2 := g.2; rw [← q.1, ← q.2.1, ← q.2.2.2.1, ← hG, ← hG, hl] at g2; cases g2
  have hx : first + kid hi first r dk = fc := by rw [hk]; omega
  rw [sift_on hi first r dk (by omega), hx, hk, ← q.2.2.1, ← hG, ← hG]

set_option maxRecDepth 100000 in
set_option maxHeartbeats 4000000 in
theorem sift_any (w : World) (blk cap lo hi first : Nat) (d : Array Int) (h : Rw w blk d) (hf : first + hi ≤ d.size) (hs : d.size ≤ 16384) (hlo : lo ≤ 16384) :
    Calls Try.prog 61 #[.slice (some ⟨blk, 0, none⟩) d.size cap, .int .i64 lo, .int .i64 hi, .int .i64 first] w fun e w' =>
      e = .returned (.tuple #[]) ∧ Rw w' blk (siftDown ltInt hi first lo d) ∧ Kp (oneB blk) w w' := by
  obtain ⟨L, hL⟩ : ∃ L, L = d.size := ⟨_, rfl⟩
  rw [← hL] at hf hs ⊢
  have HL : Hid (L = d.size) := hL
  clear hL
  go_enter Try.func61, Try.ntmps61
  go_wp2
  go_loopw [8] (fun vr wr => ∃ (r : Nat) (dk : Array Int), vr = .int .i64 r ∧ r ≤ 16384 ∧ dk.size = L ∧ Rw wr blk dk ∧ siftDown ltInt hi first r dk = siftDown ltInt hi first lo d ∧ Kp (oneB blk) w wr) (fun vr _ => 40000 - (intOf vr).toNat)
  case atStart => exact ⟨lo, d, rfl, hlo, HL.out.symm, h, rfl, Kp.refl _ _⟩
  case round =>
    obtain ⟨r, dk, rfl, hr, hsk, hrk, hO, kk⟩ := hrel
    obtain ⟨c, hc⟩ : ∃ c : Nat, c = 2 * r + 1 := ⟨_, rfl⟩
    have e1 : 2 * (r : Int) + 1 = (c : Int) := by omega
    by_cases hch : c < hi
    · obtain ⟨G, hG⟩ : ∃ G : Nat → Int, ∀ t, G t = dk[t]! := ⟨fun t => dk[t]!, fun _ => rfl⟩
      obtain ⟨fc, hfc⟩ : ∃ fc : Nat, fc = first + c := ⟨_, rfl⟩
      obtain ⟨fr, hfr⟩ : ∃ fr : Nat, fr = first + r := ⟨_, rfl⟩
      obtain ⟨fd, hfd⟩ : ∃ fd : Nat, fd = fc + 1 := ⟨_, rfl⟩
      obtain ⟨c1, hc1⟩ : ∃ c1 : Nat, c1 = c + 1 := ⟨_, rfl⟩
      have hcw : ∀ t, t < L → wr.cell? ⟨blk, t, none⟩ = some (.int .u32 (G t)) := fun t ht => by rw [hG]; exact hrk.cell (by omega)
      have hfw : ∀ t, t < L → wr.frozen? ⟨blk, t, none⟩ = false := fun t _ => hrk.frozen t
      have e2 : (first : Int) + (c : Int) = (fc : Int) := by omega
      have e4 : (fc : Int) + 1 = (fd : Int) := by omega
      have e5 : (c : Int) + 1 = (c1 : Int) := by omega
      have e6 : (first : Int) + (c1 : Int) = (fd : Int) := by omega
      have b1 : (fc : Int) < (L : Int) := by omega
      have e3 : (first : Int) + (r : Int) = (fr : Int) := by omega
      have hw1 : IntKind.i64.wrap (fr : Int) = (fr : Int) := IntWalk.i64_in _ (by omega)
      have hw2 : IntKind.i64.wrap (fc : Int) = (fc : Int) := IntWalk.i64_in _ (by omega)
      have hw3 : IntKind.i64.wrap (fd : Int) = (fd : Int) := IntWalk.i64_in _ (by omega)
      have b4 : (fr : Int) < (L : Int) := by omega
      have x1 := hcw fc (by omega)
      have x2 := hcw fr (by omega)
      have y1 := hfw fc (by omega)
      have y2 := hfw fr (by omega)
      have HO : Hid (siftDown ltInt hi first r dk = siftDown ltInt hi first lo d) := hO
      have HG : Hid (∀ t, G t = dk[t]!) := hG
      have HC : Hid (c = 2 * r + 1 ∧ fc = first + c ∧ fr = first + r ∧ fd = fc + 1 ∧ c1 = c + 1) := ⟨hc, hfc, hfr, hfd, hc1⟩
      have lfc : fc < L := by omega
      have lfr : fr < L := by omega
      have ncl : (c : Int) < (hi : Int) := by omega
      have c20 : c1 ≤ 32770 := by omega
      clear hc hfc hfr hfd hc1 hO hG
      by_cases hc1h : c1 < hi
      · have b3 : (fd : Int) < (L : Int) := by have := HC.out; omega
        have lfd : fd < L := by omega
        have x3 := hcw fd lfd
        have y3 := hfw fd lfd
        go_wp2
        go_quiet (first | (go_at_call 56; refine Calls.quiet_of_same (less_any _ _ _)))
        go_wp2
        · have hl : ltInt (G fc) (G fd) = true := by assumption
          obtain ⟨wq, hwq⟩ : ∃ wq, wq = wr.drewN nq := ⟨_, rfl⟩
          rw [← hwq]
          have hrq : Rw wq blk dk := by rw [hwq]; exact hrk.drewN _
          have kq : Kp (oneB blk) w wq := by rw [hwq]; exact kk.drewN _
          clear hwq x1 x2 y1 y2 x3 y3 hcw hfw hrk kk
          have hcq : ∀ t, t < L → wq.cell? ⟨blk, t, none⟩ = some (.int .u32 (G t)) := fun t ht => by rw [HG.out]; exact hrq.cell (by omega)
          have hfq : ∀ t, t < L → wq.frozen? ⟨blk, t, none⟩ = false := fun t _ => hrq.frozen t
          have x4 := hcq fc lfc
          have x5 := hcq fr lfr
          have y4 := hfq fc lfc
          have y5 := hfq fr lfr
          have x6 := hcq fd lfd
          have y6 := hfq fd lfd
          go_quiet (first | (go_at_call 56; refine Calls.quiet_of_same (less_any _ _ _)))
          go_wp2
          · have hm : ltInt (G fr) (G fd) = false := by have z : (!ltInt (G fr) (G fd)) = true := (by assumption); simpa using z
            refine bodyPost_ret (results_none rfl _ _ _) rfl ?_
            refine ⟨rfl, ?_, kq.drewN _⟩
            rw [← HO.out, sift_right HG.out HC.out hch hc1h hl, hm]
            exact hrq.drewN _
          · have hm : ltInt (G fr) (G fd) = true := by have z : (!ltInt (G fr) (G fd)) = false := (by assumption); simpa using z
            go_region
            all_goals go_wp2
            go_roundw
            case rel => exact ⟨c1, swp dk fr fd, rfl, by omega, by rw [Go.Sort.size_swp]; exact hsk, hrq.swapN HG.out (by omega) (by omega) _, by rw [← HO.out, sift_right HG.out HC.out hch hc1h hl, if_pos hm], kp_swapN kq _ _⟩
            case measure => have := HC.out; simp [intOf]; omega
        · have hl : ltInt (G fc) (G fd) = false := by assumption
          obtain ⟨wq, hwq⟩ : ∃ wq, wq = wr.drewN nq := ⟨_, rfl⟩
          rw [← hwq]
          have hrq : Rw wq blk dk := by rw [hwq]; exact hrk.drewN _
          have kq : Kp (oneB blk) w wq := by rw [hwq]; exact kk.drewN _
          clear hwq x1 x2 y1 y2 x3 y3 hcw hfw hrk kk
          have hcq : ∀ t, t < L → wq.cell? ⟨blk, t, none⟩ = some (.int .u32 (G t)) := fun t ht => by rw [HG.out]; exact hrq.cell (by omega)
          have hfq : ∀ t, t < L → wq.frozen? ⟨blk, t, none⟩ = false := fun t _ => hrq.frozen t
          have x4 := hcq fc lfc
          have x5 := hcq fr lfr
          have y4 := hfq fc lfc
          have y5 := hfq fr lfr
          have x6 := hcq fd lfd
          have y6 := hfq fd lfd
          go_quiet (first | (go_at_call 56; refine Calls.quiet_of_same (less_any _ _ _)))
          go_wp2
          · have hm : ltInt (G fr) (G fc) = false := by have z : (!ltInt (G fr) (G fc)) = true := (by assumption); simpa using z
            refine bodyPost_ret (results_none rfl _ _ _) rfl ?_
            refine ⟨rfl, ?_, kq.drewN _⟩
            rw [← HO.out, sift_left HG.out HC.out hch (Or.inr hl), hm]
            exact hrq.drewN _
          · have hm : ltInt (G fr) (G fc) = true := by have z : (!ltInt (G fr) (G fc)) = false := (by assumption); simpa using z
            go_region
            all_goals go_wp2
            go_roundw
            case rel => exact ⟨c, swp dk fr fc, rfl, by omega, by rw [Go.Sort.size_swp]; exact hsk, hrq.swapN HG.out (by omega) (by omega) _, by rw [← HO.out, sift_left HG.out HC.out hch (Or.inr hl), if_pos hm], kp_swapN kq _ _⟩
            case measure => have := HC.out; simp [intOf]; omega
      · have nb3 : ¬ (c1 : Int) < (hi : Int) := by omega
        go_wp2
        go_quiet (fail)
        go_wp2
        obtain ⟨wq, hwq⟩ : ∃ wq, wq = wr.drewN nq := ⟨_, rfl⟩
        rw [← hwq]
        have hrq : Rw wq blk dk := by rw [hwq]; exact hrk.drewN _
        have kq : Kp (oneB blk) w wq := by rw [hwq]; exact kk.drewN _
        clear hwq x1 x2 y1 y2 hcw hfw hrk kk
        have hcq : ∀ t, t < L → wq.cell? ⟨blk, t, none⟩ = some (.int .u32 (G t)) := fun t ht => by rw [HG.out]; exact hrq.cell (by omega)
        have hfq : ∀ t, t < L → wq.frozen? ⟨blk, t, none⟩ = false := fun t _ => hrq.frozen t
        have x4 := hcq fc lfc
        have x5 := hcq fr lfr
        have y4 := hfq fc lfc
        have y5 := hfq fr lfr
        go_quiet (first | (go_at_call 56; refine Calls.quiet_of_same (less_any _ _ _)))
        go_wp2
        · have hm : ltInt (G fr) (G fc) = false := by have z : (!ltInt (G fr) (G fc)) = true := (by assumption); simpa using z
          refine bodyPost_ret (results_none rfl _ _ _) rfl ?_
          refine ⟨rfl, ?_, kq.drewN _⟩
          rw [← HO.out, sift_left HG.out HC.out hch (Or.inl hc1h), hm]
          exact hrq.drewN _
        · have hm : ltInt (G fr) (G fc) = true := by have z : (!ltInt (G fr) (G fc)) = false := (by assumption); simpa using z
          go_region
          all_goals go_wp2
          go_roundw
          case rel => exact ⟨c, swp dk fr fc, rfl, by omega, by rw [Go.Sort.size_swp]; exact hsk, hrq.swapN HG.out (by omega) (by omega) _, by rw [← HO.out, sift_left HG.out HC.out hch (Or.inl hc1h), if_pos hm], kp_swapN kq _ _⟩
          case measure => have := HC.out; simp [intOf]; omega
    · have hge : (hi : Int) ≤ (c : Int) := by omega
      have e := sift_out hi first r dk (by omega)
      rw [e] at hO
      clear hc hch
      go_wp2
      go_end0
      exact ⟨rfl, hO ▸ hrk, kk⟩

set_option maxRecDepth 100000 in
set_option maxHeartbeats 4000000 in
theorem heap_any (w : World) (blk cap a b : Nat) (d : Array Int) (h : Rw w blk d) (hab : a < b) (hb : b ≤ d.size) (hs : d.size ≤ 16384) :
    Calls Try.prog 51 #[.slice (some ⟨blk, 0, none⟩) d.size cap, .int .i64 a, .int .i64 b] w fun e w' =>
      e = .returned (.tuple #[]) ∧ Rw w' blk (heapSort ltInt d a b) ∧ Kp (oneB blk) w w' := by
  obtain ⟨L, hL⟩ : ∃ L, L = d.size := ⟨_, rfl⟩
  rw [← hL] at hb hs ⊢
  have HL : Hid (L = d.size) := hL
  clear hL
  obtain ⟨hi, hhi⟩ : ∃ hi : Nat, hi = b - a := ⟨_, rfl⟩
  have e1 : (b : Int) - (a : Int) = (hi : Int) := by omega
  have e2 : Int.tdiv ((hi : Int) - 1) 2 = (((hi - 1) / 2 : Nat) : Int) := by
    have : (hi : Int) - 1 = ((hi - 1 : Nat) : Int) := by omega
    rw [this]; rfl
  have hi1 : 1 ≤ hi := by omega
  have hi2 : a + hi ≤ L := by omega
  have HS : Hid (heapSort ltInt d a b = heapPop ltInt a hi (heapBuild ltInt hi a ((hi - 1) / 2 + 1) d)) := show _ = _ by rw [hhi]; rfl
  clear hhi
  go_enter Try.func51, Try.ntmps51
  go_wp2
  go_loopw [9] (fun vi wr => ∃ (k : Nat) (dk : Array Int), vi = .int .i64 ((k : Int) - 1) ∧ k ≤ 16384 ∧ k ≤ hi ∧ dk.size = L ∧ Rw wr blk dk ∧ heapBuild ltInt hi a k dk = heapBuild ltInt hi a ((hi - 1) / 2 + 1) d ∧ Kp (oneB blk) w wr) (fun vi _ => (intOf vi + 1).toNat)
  case atStart => exact ⟨(hi - 1) / 2 + 1, d, by congr 1; omega, by omega, by omega, HL.out.symm, h, rfl, Kp.refl _ _⟩
  case round =>
    obtain ⟨k, dk, rfl, hk, hkh, hsk, hrk, hO, kk⟩ := hrel
    cases k with
    | succ k =>
      have HO : Hid (heapBuild ltInt hi a k (siftDown ltInt hi a k dk) = heapBuild ltInt hi a ((hi - 1) / 2 + 1) d) := hO
      clear hO
      have ek : ((k + 1 : Nat) : Int) - 1 = (k : Int) := by omega
      rw [ek]
      have cS := sift_any wr blk cap k hi a dk hrk (by omega) (by omega) (by omega)
      rw [hsk] at cS
      go_wp2_with fail
      refine cS.mono ?_; rintro e w2 ⟨rfl, hr2, k2⟩
      go_wp2
      go_roundw
      case rel => exact ⟨k, _, rfl, by omega, by omega, by rw [size_sift hi a hi k dk (by omega)]; exact hsk, hr2, HO.out, kk.trans k2⟩
      case measure => simp [intOf]
    | zero =>
      have HD : Hid (heapSort ltInt d a b = heapPop ltInt a hi dk) := show _ = _ by rw [HS.out, ← hO]; rfl
      clear hO
      have ez : ((0 : Nat) : Int) - 1 = -1 := by omega
      rw [ez]
      go_wp2
      go_loopw [10] (fun vi wr2 => ∃ (k : Nat) (dk : Array Int), vi = .int .i64 ((k : Int) - 1) ∧ k ≤ hi ∧ dk.size = L ∧ Rw wr2 blk dk ∧ heapPop ltInt a k dk = heapSort ltInt d a b ∧ Kp (oneB blk) w wr2) (fun vi _ => (intOf vi + 1).toNat)
      case atStart => exact ⟨hi, dk, rfl, Nat.le_refl _, hsk, hrk, HD.out.symm, kk⟩
      case round =>
        obtain ⟨k, dj, rfl, hkj, hsj, hrj, hP, kj⟩ := hrel
        cases k with
        | succ k =>
          have HP : Hid (heapPop ltInt a k (siftDown ltInt k a 0 (swp dj a (a + k))) = heapSort ltInt d a b) := hP
          clear hP
          have ek : ((k + 1 : Nat) : Int) - 1 = (k : Int) := by omega
          rw [ek]
          obtain ⟨G, hG⟩ : ∃ G : Nat → Int, ∀ t, G t = dj[t]! := ⟨fun t => dj[t]!, fun _ => rfl⟩
          obtain ⟨f, hf⟩ : ∃ f : Nat, f = a + k := ⟨_, rfl⟩
          have e4 : (a : Int) + (k : Int) = (f : Int) := by omega
          have b1 : (f : Int) < (L : Int) := by omega
          have b2 : (a : Int) < (L : Int) := by omega
          have x1 : wr.cell? ⟨blk, a, none⟩ = some (.int .u32 (G a)) := by rw [hG]; exact hrj.cell (by omega)
          have x2 : wr.cell? ⟨blk, f, none⟩ = some (.int .u32 (G f)) := by rw [hG]; exact hrj.cell (by omega)
          have y1 := hrj.frozen a
          have y2 := hrj.frozen f
          have HG : Hid (∀ t, G t = dj[t]!) := hG
          have HF : Hid (f = a + k) := hf
          clear hG hf
          have fin : ∀ w2, Rw w2 blk (swp dj a f) → Kp (oneB blk) w w2 → Calls Try.prog 61 #[.slice (some ⟨blk, 0, none⟩) L cap, .int .i64 0, .int .i64 k, .int .i64 a] w2 fun e w' =>
              e = .returned (.tuple #[]) ∧ Rw w' blk (siftDown ltInt k a 0 (swp dj a f)) ∧ Kp (oneB blk) w w' ∧ (siftDown ltInt k a 0 (swp dj a f)).size = L := fun w2 h2 k2 => by
            have sz : (swp dj a f).size = L := by rw [Go.Sort.size_swp]; exact hsj
            have cS := sift_any w2 blk cap 0 k a _ h2 (by omega) (by omega) (by omega)
            rw [sz] at cS
            refine cS.mono ?_
            rintro e w3 ⟨rfl, h3, k3⟩
            exact ⟨rfl, h3, k2.trans k3, by rw [size_sift k a k 0 _ (by omega)]; exact sz⟩
          have la : a < dj.size := by omega
          have lf : f < dj.size := by omega
          by_cases hfa : f = a
          · rw [hfa] at e4 b1 x2 y2 fin
            have hs2 := fun n => hrj.swapN HG.out la la n
            go_wp2
            go_region
            all_goals go_wp2_with fail
            refine (fin _ (hs2 _) (kp_swapN kj _ _)).mono ?_
            rintro e w3 ⟨rfl, h3, k3, sz3⟩
            go_wp2
            go_roundw
            case rel => exact ⟨k, _, rfl, by omega, sz3, h3, by rw [← HP.out, ← HF.out, hfa], k3⟩
            case measure => simp [intOf]
          · have hne : ¬ a = f := fun g => hfa g.symm
            go_wp2
            go_region
            all_goals go_wp2_with fail
            refine (fin _ (hrj.swapN HG.out la lf _) (kp_swapN kj _ _)).mono ?_
            rintro e w3 ⟨rfl, h3, k3, sz3⟩
            go_wp2
            go_roundw
            case rel => exact ⟨k, _, rfl, by omega, sz3, h3, by rw [← HP.out, ← HF.out], k3⟩
            case measure => simp [intOf]
        | zero =>
          have ez : ((0 : Nat) : Int) - 1 = -1 := by omega
          rw [ez]
          go_wp2
          go_end0
          exact ⟨rfl, hP ▸ hrj, kj⟩
end Go.Proofs.Ytankfdcpnhociaa
