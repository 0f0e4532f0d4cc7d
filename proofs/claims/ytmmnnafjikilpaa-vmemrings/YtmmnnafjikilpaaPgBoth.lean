/- Both: memories with some words in them, the project's and the document's; pages that can only be read. -/
import Derived.Test.YtmmnnafjikilpaaPgRef
import Derived.Deep.LoopGhost
namespace Go.Proofs.Ytmmnnafjikilpaa
open Go.ChangeShapes Go.WideShapes Go.ChangeAt Go.RowKit Go.Maps
set_option linter.unusedVariables false

/-- Both memories hold the same. -/
structure Both (w : World) (B : Nat) (R : Rf) (M : Mem) : Prop where
  ram : RamAt w B M
  ref : RefAt w R M
  ap : ∀ k, R.has k → ¬ inRam B M.n k

def both (B n : Nat) (R : Rf) (k : Nat) : Prop := inRam B n k ∨ R.has k

theorem Both.kp {S : Nat → Prop} {w w' : World} {B : Nat} {R : Rf} {M : Mem} (h : Both w B R M) (k : Kp S w w') (hS : ∀ j, both B M.n R j → ¬ S j) : Both w' B R M :=
  ⟨h.ram.kp k (fun j hj => hS j (.inl hj)), h.ref.kp k (fun j hj => hS j (.inr hj)), h.ap⟩

theorem Both.lt {w : World} {B : Nat} {R : Rf} {M : Mem} (h : Both w B R M) {k : Nat} (hk : both B M.n R k) : k < w.heap.size := by
  rcases hk with e | e
  · have := h.ram.lt; have := e.2; omega
  · exact h.ref.lt e

/-- Words that came in. -/
def WordIn (w : World) (x : Option Addr) (f g : Nat → Int) (i : Nat) : Prop :=
  ∃ (blk off : Nat), x = some ⟨blk, off, none⟩ ∧ blk < w.heap.size ∧ w.cell? ⟨blk, off + i * 2, none⟩ = some (.int .u32 (f i)) ∧ w.cell? ⟨blk, off + i * 2 + 1, none⟩ = some (.int .u32 (g i)) ∧ (0 ≤ f i ∧ f i < 4294967296 ∧ 0 ≤ g i ∧ g i < 4294967296)

/-- Numbers of pages that came in. -/
def OnlyIn (w : World) (x : Option Addr) (h : Nat → Int) (i : Nat) : Prop :=
  ∃ (blk off : Nat), x = some ⟨blk, off, none⟩ ∧ blk < w.heap.size ∧ w.cell? ⟨blk, off + i, none⟩ = some (.int .i64 (h i)) ∧ (-9223372036854775808 ≤ h i ∧ h i ≤ 9223372036854775807)

theorem WordIn.kp {w w' : World} {x : Option Addr} {f g : Nat → Int} {i : Nat} (h : WordIn w x f g i) (k : Kp noB w w') : WordIn w' x f g i := by
  obtain ⟨blk, off, h1, h2, h3, h4, h5⟩ := h
  exact ⟨blk, off, h1, Nat.lt_of_lt_of_le h2 k.size, cell_kp h3 k (fun f => f), cell_kp h4 k (fun f => f), h5⟩
theorem OnlyIn.kp {w w' : World} {x : Option Addr} {h : Nat → Int} {i : Nat} (q : OnlyIn w x h i) (k : Kp noB w w') : OnlyIn w' x h i := by
  obtain ⟨blk, off, h1, h2, h3, h4⟩ := q
  exact ⟨blk, off, h1, Nat.lt_of_lt_of_le h2 k.size, cell_kp h3 k (fun f => f), h4⟩

def wordsM (M : Mem) (f g : Nat → Int) : Nat → Mem
  | 0 => M
  | i + 1 => (wordsM M f g i).lay false (f i) (bytesV (g i))

def romM (M : Mem) (h : Int) : Mem := if 0 ≤ h ∧ h < M.n then { M with only := fun j => if j = h.toNat then true else M.only j } else M

def romsM (M : Mem) (h : Nat → Int) : Nat → Mem
  | 0 => M
  | i + 1 => romM (romsM M h i) (h i)

theorem romM_same (M : Mem) (h : Int) : (romM M h).n = M.n ∧ (romM M h).closed = M.closed ∧ (romM M h).byte = M.byte := by
  unfold romM; split <;> exact ⟨rfl, rfl, rfl⟩
theorem wordsM_same (M : Mem) (f g : Nat → Int) : ∀ i, (wordsM M f g i).n = M.n ∧ (wordsM M f g i).only = M.only ∧ (wordsM M f g i).closed = M.closed
  | 0 => ⟨rfl, rfl, rfl⟩
  | i + 1 => by
    have h := wordsM_same M f g i
    have k := lay_same false (bytesV (g i)) (wordsM M f g i) (f i)
    exact ⟨k.1.trans h.1, k.2.1.trans h.2.1, k.2.2.trans h.2.2⟩
theorem romsM_same (M : Mem) (h : Nat → Int) : ∀ i, (romsM M h i).n = M.n ∧ (romsM M h i).closed = M.closed ∧ (romsM M h i).byte = M.byte
  | 0 => ⟨rfl, rfl, rfl⟩
  | i + 1 => by
    have k := romsM_same M h i
    have q := romM_same (romsM M h i) (h i)
    exact ⟨q.1.trans k.1, q.2.1.trans k.2.1, q.2.2.trans k.2.2⟩

theorem rom_both (M : Mem) (B : Nat) (R : Rf) (h : Int) (h0 : -9223372036854775808 ≤ h) (h1 : h ≤ 9223372036854775807) : ∃ ev : Int,
    (∀ W, RamAt W B M → Calls Try.prog 28 #[.pointer (some ⟨B + 3, 0, none⟩), .int .i64 h, .bool true] W fun e w' => e = .returned (.int .i64 ev) ∧ RamAt w' B (romM M h) ∧ Kp (inRam B M.n) W w') ∧
    (∀ W, RefAt W R M → Calls Try.prog 29 #[.pointer (some ⟨R.r, 0, none⟩), .int .i64 h, .bool true] W fun e w' => e = .returned (.int .i64 ev) ∧ RefAt w' R (romM M h) ∧ Kp R.has W w') := by
  by_cases hi : 0 ≤ h ∧ h < M.n
  · obtain ⟨i, rfl⟩ : ∃ i : Nat, h = i := ⟨h.toNat, by omega⟩
    refine ⟨0, fun W hW => ?_, fun W hW => ?_⟩
    · unfold romM; rw [if_pos hi]; exact rom_ok W B M hW i true (by omega)
    · unfold romM; rw [if_pos hi]; exact refRom_ok W R M hW i true (by omega)
  · refine ⟨1, fun W hW => ?_, fun W hW => ?_⟩
    · unfold romM; rw [if_neg hi]
      refine (rom_no W B M hW h true h0 h1 (by omega)).mono ?_
      rintro e w' ⟨h1, rfl⟩
      exact ⟨h1, hW, Kp.refl _ _⟩
    · unfold romM; rw [if_neg hi]
      refine (refRom_no W R M hW h true (by omega)).mono ?_
      rintro e w' ⟨h1, rfl⟩
      exact ⟨h1, hW, Kp.refl _ _⟩

def memOf (f g h : Nat → Int) (L K : Nat) : Mem := romsM (wordsM (mem0 16) f g L) h K
theorem memOf_same (f g h : Nat → Int) (L K : Nat) : (memOf f g h L K).n = 16 ∧ (memOf f g h L K).closed = false := by
  unfold memOf
  have k := romsM_same (wordsM (mem0 16) f g L) h K
  have q := wordsM_same (mem0 16) f g L
  exact ⟨k.1.trans q.1, k.2.1.trans q.2.2⟩

def BothPost (w : World) (M : Mem) (e : Ending) (w' : World) : Prop :=
  ∃ (B : Nat) (R : Rf), e = .returned (.tuple #[.pointer (some ⟨B + 3, 0, none⟩), .pointer (some ⟨R.r, 0, none⟩)]) ∧ Both w' B R M ∧ (∀ j, both B 16 R j → w.heap.size ≤ j) ∧ Kp noB w w'

def WdL (w : World) (B : Nat) (R : Rf) (f g : Nat → Int) (L k : Nat) (s : Value) (wr : World) : Prop :=
  ∃ i : Nat, s = .int .i64 i ∧ i ≤ L ∧ L - i ≤ k ∧ Both wr B R (wordsM (mem0 16) f g i) ∧ Kp noB w wr
def OnL (w : World) (B : Nat) (R : Rf) (M : Mem) (h : Nat → Int) (K k : Nat) (s : Value) (wr : World) : Prop :=
  ∃ i : Nat, s = .int .i64 i ∧ i ≤ K ∧ K - i ≤ k ∧ Both wr B R (romsM M h i) ∧ Kp noB w wr

set_option maxRecDepth 100000 in
set_option maxHeartbeats 4000000 in
theorem both_any (w : World) (x y : Option Addr) (L c K d : Nat) (f g h : Nat → Int) (hL : L ≤ 9223372036854775807) (hK : K ≤ 9223372036854775807) (hw : ∀ i, i < L → WordIn w x f g i) (ho : ∀ i, i < K → OnlyIn w y h i) :
    Calls Try.prog 10 #[.int .i64 16, .slice x L c, .slice y K d] w (BothPost w (memOf f g h L K)) := by
  have HN : Hid (∀ w, _) := fun w => new_ok w 16 (by omega) (by omega)
  have HR : Hid (∀ w, _) := fun w => refNew_ok w 16 (by omega) (by omega)
  have HS : Hid (∀ i, i < L → WordIn w x f g i) := hw
  have HT : Hid (∀ i, i < K → OnlyIn w y h i) := ho
  clear hw ho
  go_enter Try.func10, Try.ntmps10
  go_wp2_with fail
  refine (HN.out _).mono ?_; rintro e w2 ⟨rfl, hr2, hz2, kb2⟩
  go_wp2_with fail
  refine (HR.out _).mono ?_; rintro e w3 ⟨R, rfl, hf3, hout, k3⟩
  obtain ⟨B, hB⟩ : ∃ B, B = w.heap.size := ⟨_, rfl⟩
  rw [← hB] at hr2 hz2 ⊢
  have hB3 : Both w3 B R (mem0 16) := ⟨hr2.kp k3 (fun _ _ f => f), hf3, fun j hj f => by have := hout j hj; have := f.2; have e : (mem0 16).n = 16 := rfl; rw [e] at this; omega⟩
  have kk3 : Kp noB w w3 := (Kp.ofBelow (S := noB) kb2 (fun j h1 h2 => absurd h1 (by omega))).trans k3
  have HO : Hid (∀ j, both B 16 R j → w.heap.size ≤ j) := fun j hj => by
    rcases hj with f | f
    · have := f.1; omega
    · have := hout j f; omega
  clear HN HR hout kb2 k3 hf3 hr2 hz2 hB
  go_wp2_with fail
  go_loopg [12] L (WdL w B R f g L)
  case atStart => exact ⟨0, rfl, Nat.zero_le _, Nat.le_refl _, hB3, kk3⟩
  case round =>
    clear hB3 kk3
    obtain ⟨i, rfl, hi1, hik, hBo, kk⟩ := hrel
    by_cases hlt : (i : Int) < (L : Int)
    · have hi' : i < L := by omega
      have hst : wordsM (mem0 16) f g (i + 1) = (wordsM (mem0 16) f g i).lay false (f i) (bytesV (g i)) := rfl
      have hnn := (wordsM_same (mem0 16) f g i).1
      have hnn1 := (wordsM_same (mem0 16) f g (i + 1)).1
      have e16 : (mem0 16).n = 16 := rfl
      rw [e16] at hnn hnn1
      obtain ⟨blk, off, rfl, hblk, c0, c1, a0, a1, v0, v1⟩ := (HS.out i hi').kp kk
      have hblk0 : blk < w.heap.size := by obtain ⟨b', o', e1, h2, _⟩ := HS.out i hi'; cases e1; exact h2
      have nb : ¬ both B 16 R blk := fun f => by have := HO.out _ f; omega
      have HJ2 : Hid (wordsM (mem0 16) f g (i + 1) = (wordsM (mem0 16) f g i).lay false (f i) (bytesV (g i))) := hst
      obtain ⟨M, hM⟩ : ∃ M, M = wordsM (mem0 16) f g i := ⟨_, rfl⟩
      obtain ⟨M', hM'⟩ : ∃ M', M' = wordsM (mem0 16) f g (i + 1) := ⟨_, rfl⟩
      rw [← hM] at hBo hnn hst
      rw [← hM'] at hnn1 hst
      have HM' : Hid (M' = wordsM (mem0 16) f g (i + 1)) := hM'
      generalize f i = a at *
      generalize g i = v at *
      have HC : Hid (∀ W, RamAt W B M → Calls Try.prog 26 #[.pointer (some ⟨B + 3, 0, none⟩), .int .u32 a, .int .i64 4, .int .u32 v] W (fun e w' => e = .returned (.int .i64 0) ∧ RamAt w' B M' ∧ Kp (inRam B 16) W w')) := fun W hW => by
        have := write_ok W B M hW a 4 v a0 a1 v0 v1 rfl
        rw [hnn] at this
        rw [hst]
        exact this
      have HD : Hid (∀ W, RefAt W R M → Calls Try.prog 27 #[.pointer (some ⟨R.r, 0, none⟩), .int .u32 a, .int .i64 4, .int .u32 v] W (fun e w' => e = .returned (.int .i64 0) ∧ RefAt w' R M' ∧ Kp R.has W w')) := fun W hW => by
        have := refWrite_ok W R M hW a 4 v a0 a1 v0 v1 rfl
        rw [hst]
        exact this
      obtain ⟨j, hj⟩ : ∃ j, j = i + 1 := ⟨_, rfl⟩
      have HJ : Hid (j = i + 1) := hj
      have HK : Hid (L - i ≤ gk) := hik
      have HAp : Hid (∀ j, R.has j → ¬ inRam B 16 j) := fun j hj f => by have := hBo.ap j hj; rw [hnn] at this; exact this f
      have hra := hBo.ram
      have hrf := hBo.ref
      clear hj hik hM hM' hst hBo HJ2
      go_upto_region 10 with fail
      go_region_with (go_at_call 26; refine (HC.out _ (hra.drewN 1)).mono ?_; rintro e w4 ⟨rfl, hr4, k4⟩)
      all_goals
        have k4' : Kp (inRam B 16) wr w4 := ⟨k4.os, k4.tape, k4.output, k4.size, k4.block⟩
        replace c0 := cell_kp c0 k4' (fun f => nb (.inl f))
        replace c1 := cell_kp c1 k4' (fun f => nb (.inl f))
        have hf4 := hrf.kp k4' (fun j hj f => HAp.out j hj f)
        have kk4 : Kp noB w w4 := kk.over k4' (fun t ht f => by have := HO.out t (.inl f); omega)
        clear k4 k4' hra hrf
        go_upto_region 11 with fail
        go_region_with (go_at_call 27; refine (HD.out _ (hf4.drewN 1)).mono ?_; rintro e w5 ⟨rfl, hf5, k5⟩)
      all_goals
        have k5' : Kp R.has w4 w5 := ⟨k5.os, k5.tape, k5.output, k5.size, k5.block⟩
        have hr5 := hr4.kp k5' (fun j hj f => HAp.out j f (by rw [hnn1] at hj; exact hj))
        have kk5 : Kp noB w w5 := kk4.over k5' (fun t ht f => by have := HO.out t (.inr f); omega)
        go_wp2_with fail
        go_roundg (L - j)
        case measure => have := HJ.out; have := HK.out; omega
        case rel => exact ⟨j, by rw [HJ.out]; rfl, by have := HJ.out; omega, Nat.le_refl _, by rw [HJ.out, ← HM'.out]; exact ⟨hr5, hf5, fun j hj f => HAp.out j hj (by rw [hnn1] at f; exact f)⟩, kk5⟩
    · obtain rfl : i = L := by omega
      clear hik
      have hnM : (wordsM (mem0 16) f g i).n = 16 := (wordsM_same (mem0 16) f g i).1
      have HM0 : Hid (memOf f g h i K = romsM (wordsM (mem0 16) f g i) h K) := rfl
      obtain ⟨M0, hM0⟩ : ∃ M0, M0 = wordsM (mem0 16) f g i := ⟨_, rfl⟩
      rw [← hM0] at hBo hnM HM0
      clear hM0 HS
      go_wp2_with fail
      go_loopg [13] K (OnL w B R M0 h K)
      case atStart => exact ⟨0, rfl, Nat.zero_le _, Nat.le_refl _, hBo, kk⟩
      case round =>
        clear hBo kk
        obtain ⟨m, rfl, hm1, hmk, hBo, kk⟩ := hrel
        by_cases hlt' : (m : Int) < (K : Int)
        · have hm' : m < K := by omega
          have hst : romsM M0 h (m + 1) = romM (romsM M0 h m) (h m) := rfl
          have hnn := (romsM_same M0 h m).1
          have hnn1 := (romsM_same M0 h (m + 1)).1
          rw [hnM] at hnn hnn1
          obtain ⟨blk, off, rfl, hblk, c0, a0, a1⟩ := (HT.out m hm').kp kk
          have hblk0 : blk < w.heap.size := by obtain ⟨b', o', e1, h2, _⟩ := HT.out m hm'; cases e1; exact h2
          have nb : ¬ both B 16 R blk := fun f => by have := HO.out _ f; omega
          obtain ⟨ev, HC, HD⟩ := rom_both (romsM M0 h m) B R (h m) a0 a1
          rw [← hst] at HC HD
          obtain ⟨M, hM⟩ : ∃ M, M = romsM M0 h m := ⟨_, rfl⟩
          obtain ⟨M', hM'⟩ : ∃ M', M' = romsM M0 h (m + 1) := ⟨_, rfl⟩
          rw [← hM] at hBo hnn HC HD
          rw [← hM'] at hnn1 HC HD
          have HM' : Hid (M' = romsM M0 h (m + 1)) := hM'
          generalize h m = a at *
          have HC2 : Hid _ := HC
          have HD2 : Hid _ := HD
          obtain ⟨j, hj⟩ : ∃ j, j = m + 1 := ⟨_, rfl⟩
          have HJ : Hid (j = m + 1) := hj
          have HK : Hid (K - m ≤ gk) := hmk
          have HAp : Hid (∀ j, R.has j → ¬ inRam B 16 j) := fun j hj f => by have := hBo.ap j hj; rw [hnn] at this; exact this f
          have hra := hBo.ram
          have hrf := hBo.ref
          clear hj hmk hM hM' hst hBo HC HD
          go_wp2_with fail
          refine (HC2.out _ hra).mono ?_; rintro e w4 ⟨rfl, hr4, k4⟩
          rw [hnn] at k4
          replace c0 := cell_kp c0 k4 (fun f => nb (.inl f))
          have hf4 := hrf.kp k4 (fun j hj f => HAp.out j hj f)
          have kk4 : Kp noB w w4 := kk.over k4 (fun t ht f => by have := HO.out t (.inl f); omega)
          clear k4 hra hrf
          go_wp2_with fail
          refine (HD2.out _ hf4).mono ?_; rintro e w5 ⟨rfl, hf5, k5⟩
          have hr5 := hr4.kp k5 (fun j hj f => HAp.out j f (by rw [hnn1] at hj; exact hj))
          have kk5 : Kp noB w w5 := kk4.over k5 (fun t ht f => by have := HO.out t (.inr f); omega)
          go_wp2_with fail
          go_roundg (K - j)
          case measure => have := HJ.out; have := HK.out; omega
          case rel => exact ⟨j, by rw [HJ.out]; rfl, by have := HJ.out; omega, Nat.le_refl _, by rw [HJ.out, ← HM'.out]; exact ⟨hr5, hf5, fun j hj f => HAp.out j hj (by rw [hnn1] at f; exact f)⟩, kk5⟩
        · obtain rfl : m = K := by omega
          clear hmk
          go_wp2
          refine bodyPost_ret (v := .tuple #[.pointer (some ⟨B + 3, 0, none⟩), .pointer (some ⟨R.r, 0, none⟩)]) (by simp [results, Try.results10, go_sem]) rfl ⟨B, R, rfl, by rw [HM0.out]; exact hBo, HO.out, kk⟩
end Go.Proofs.Ytmmnnafjikilpaa
