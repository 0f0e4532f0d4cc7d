/- Texts on vmem, joined: PgRef, PgBoth, PgAlike, PgAwake, PgLaw0, PgOpen. -/
import Derived.Test.YtmmnnafjikilpaaVc
import Derived.Test.YtmmnnafjikilpaaVd
import Derived.LoopN
import Derived.Deep.RegionWith
import Derived.Deep.Cut
import Derived.Deep.LoopGhost
import Derived.Laws.BytesArg
import Derived.Deep.RegionHeld3
import Derived.Test.YtmmnnafjikilpaaRows
import Derived.WalkKit
import Derived.ProofKit
import Derived.OpenShut
import Derived.Carry
import Derived.Deep.Slices
/- The document's own walk through two tables: has, mark. -/
namespace Go.Proofs.Ytmmnnafjikilpaa
open Go.ChangeShapes Go.WideShapes Go.ChangeAt Go.RowKit Go.Maps
set_option linter.unusedVariables false

theorem cell_kp {S : Nat → Prop} {w w' : World} {b o : Nat} {v : Value} (h : w.cell? ⟨b, o, none⟩ = some v) (k : Kp S w w') (hS : ¬ S b) : w'.cell? ⟨b, o, none⟩ = some v := by
  have hb : b < w.heap.size := by
    rcases Nat.lt_or_ge b w.heap.size with g | g
    · exact g
    · simp [World.cell?, Array.getElem?_eq_none g] at h
  exact (World.cell?_of_block (k.block b hb hS)).trans h

theorem set_yes {n k : Int} (h : hasF n k = true) : setF n k true = n := by
  unfold hasF at h
  unfold setF flg
  rw [if_pos (by simpa using h), if_pos rfl]
  omega
theorem set_no {n k : Int} (h : hasF n k = false) : setF n k true = n + k := by
  unfold hasF at h
  unfold setF flg
  rw [if_neg (by simpa using h), if_pos rfl]


/-- The list of bits that is handed on. -/
def BitsAt (w : World) (Y : Nat) (wr : Bool) : Prop := w.cell? ⟨Y, 0, none⟩ = some (.int .i64 5) ∧ (wr = true → w.cell? ⟨Y, 1, none⟩ = some (.int .i64 6))

end Go.Proofs.Ytmmnnafjikilpaa

/- Both: memories with some words in them, the project's and the document's; pages that can only be read. -/
namespace Go.Proofs.Ytmmnnafjikilpaa
open Go.ChangeShapes Go.WideShapes Go.ChangeAt Go.RowKit Go.Maps
set_option linter.unusedVariables false

/-- Both memories hold the same. -/
structure Both (w : World) (B : Nat) (R : Rf) (M : Mem) : Prop where
  ram : RamAt w B M
  ref : RefAt w R M
  ap : ∀ k, R.has k → ¬ inRam B M.n k

def both (B n : Nat) (R : Rf) (k : Nat) : Prop := inRam B n k ∨ R.has k

theorem Both.kp {S : Nat → Prop} {w w' : World} {B : Nat} {R : Rf} {M : Mem} (h : Both w B R M) (k : Kp S w w') (hS : ∀ j, both B M.n R j → ¬ S j) : Both w' B R M :=
  ⟨h.ram.kp k (fun j hj => hS j (.inl hj)), h.ref.kp k (fun j hj => hS j (.inr hj)), h.ap⟩

theorem Both.lt {w : World} {B : Nat} {R : Rf} {M : Mem} (h : Both w B R M) {k : Nat} (hk : both B M.n R k) : k < w.heap.size := by
  rcases hk with e | e
  · have := h.ram.lt; have := e.2; omega
  · exact h.ref.lt e

/-- Words that came in. -/
def WordIn (w : World) (x : Option Addr) (f g : Nat → Int) (i : Nat) : Prop :=
  ∃ (blk off : Nat), x = some ⟨blk, off, none⟩ ∧ blk < w.heap.size ∧ w.cell? ⟨blk, off + i * 2, none⟩ = some (.int .u32 (f i)) ∧ w.cell? ⟨blk, off + i * 2 + 1, none⟩ = some (.int .u32 (g i)) ∧ (0 ≤ f i ∧ f i < 4294967296 ∧ 0 ≤ g i ∧ g i < 4294967296)

/-- Numbers of pages that came in. -/
def OnlyIn (w : World) (x : Option Addr) (h : Nat → Int) (i : Nat) : Prop :=
  ∃ (blk off : Nat), x = some ⟨blk, off, none⟩ ∧ blk < w.heap.size ∧ w.cell? ⟨blk, off + i, none⟩ = some (.int .i64 (h i)) ∧ (-9223372036854775808 ≤ h i ∧ h i ≤ 9223372036854775807)

theorem WordIn.kp {w w' : World} {x : Option Addr} {f g : Nat → Int} {i : Nat} (h : WordIn w x f g i) (k : Kp noB w w') : WordIn w' x f g i := by
  obtain ⟨blk, off, h1, h2, h3, h4, h5⟩ := h
  exact ⟨blk, off, h1, Nat.lt_of_lt_of_le h2 k.size, cell_kp h3 k (fun f => f), cell_kp h4 k (fun f => f), h5⟩
theorem OnlyIn.kp {w w' : World} {x : Option Addr} {h : Nat → Int} {i : Nat} (q : OnlyIn w x h i) (k : Kp noB w w') : OnlyIn w' x h i := by
  obtain ⟨blk, off, h1, h2, h3, h4⟩ := q
  exact ⟨blk, off, h1, Nat.lt_of_lt_of_le h2 k.size, cell_kp h3 k (fun f => f), h4⟩

def wordsM (M : Mem) (f g : Nat → Int) : Nat → Mem
  | 0 => M
  | i + 1 => (wordsM M f g i).lay false (f i) (bytesV (g i))

def romM (M : Mem) (h : Int) : Mem := if 0 ≤ h ∧ h < M.n then { M with only := fun j => if j = h.toNat then true else M.only j } else M

def romsM (M : Mem) (h : Nat → Int) : Nat → Mem
  | 0 => M
  | i + 1 => romM (romsM M h i) (h i)

theorem romM_same (M : Mem) (h : Int) : (romM M h).n = M.n ∧ (romM M h).closed = M.closed ∧ (romM M h).byte = M.byte := by
  unfold romM; split <;> exact ⟨rfl, rfl, rfl⟩
theorem wordsM_same (M : Mem) (f g : Nat → Int) : ∀ i, (wordsM M f g i).n = M.n ∧ (wordsM M f g i).only = M.only ∧ (wordsM M f g i).closed = M.closed
  | 0 => ⟨rfl, rfl, rfl⟩
  | i + 1 => by
    have h := wordsM_same M f g i
    have k := lay_same false (bytesV (g i)) (wordsM M f g i) (f i)
    exact ⟨k.1.trans h.1, k.2.1.trans h.2.1, k.2.2.trans h.2.2⟩
theorem romsM_same (M : Mem) (h : Nat → Int) : ∀ i, (romsM M h i).n = M.n ∧ (romsM M h i).closed = M.closed ∧ (romsM M h i).byte = M.byte
  | 0 => ⟨rfl, rfl, rfl⟩
  | i + 1 => by
    have k := romsM_same M h i
    have q := romM_same (romsM M h i) (h i)
    exact ⟨q.1.trans k.1, q.2.1.trans k.2.1, q.2.2.trans k.2.2⟩

theorem rom_both (M : Mem) (B : Nat) (R : Rf) (h : Int) (h0 : -9223372036854775808 ≤ h) (h1 : h ≤ 9223372036854775807) : ∃ ev : Int,
    (∀ W, RamAt W B M → Calls Try.prog 28 #[.pointer (some ⟨B + 3, 0, none⟩), .int .i64 h, .bool true] W fun e w' => e = .returned (.int .i64 ev) ∧ RamAt w' B (romM M h) ∧ Kp (inRam B M.n) W w') ∧
    (∀ W, RefAt W R M → Calls Try.prog 29 #[.pointer (some ⟨R.r, 0, none⟩), .int .i64 h, .bool true] W fun e w' => e = .returned (.int .i64 ev) ∧ RefAt w' R (romM M h) ∧ Kp R.has W w') := by
  by_cases hi : 0 ≤ h ∧ h < M.n
  · obtain ⟨i, rfl⟩ : ∃ i : Nat, h = i := ⟨h.toNat, by omega⟩
    refine ⟨0, fun W hW => ?_, fun W hW => ?_⟩
    · unfold romM; rw [if_pos hi]; exact rom_ok W B M hW i true (by omega)
    · unfold romM; rw [if_pos hi]; exact refRom_ok W R M hW i true (by omega)
  · refine ⟨1, fun W hW => ?_, fun W hW => ?_⟩
    · unfold romM; rw [if_neg hi]
      refine (rom_no W B M hW h true h0 h1 (by omega)).mono ?_
      rintro e w' ⟨h1, rfl⟩
      exact ⟨h1, hW, Kp.refl _ _⟩
    · unfold romM; rw [if_neg hi]
      refine (refRom_no W R M hW h true (by omega)).mono ?_
      rintro e w' ⟨h1, rfl⟩
      exact ⟨h1, hW, Kp.refl _ _⟩

def memOf (f g h : Nat → Int) (L K : Nat) : Mem := romsM (wordsM (mem0 16) f g L) h K
theorem memOf_same (f g h : Nat → Int) (L K : Nat) : (memOf f g h L K).n = 16 ∧ (memOf f g h L K).closed = false := by
  unfold memOf
  have k := romsM_same (wordsM (mem0 16) f g L) h K
  have q := wordsM_same (mem0 16) f g L
  exact ⟨k.1.trans q.1, k.2.1.trans q.2.2⟩

def BothPost (w : World) (M : Mem) (e : Ending) (w' : World) : Prop :=
  ∃ (B : Nat) (R : Rf), e = .returned (.tuple #[.pointer (some ⟨B + 3, 0, none⟩), .pointer (some ⟨R.r, 0, none⟩)]) ∧ Both w' B R M ∧ (∀ j, both B 16 R j → w.heap.size ≤ j) ∧ Kp noB w w'

def WdL (w : World) (B : Nat) (R : Rf) (f g : Nat → Int) (L k : Nat) (s : Value) (wr : World) : Prop :=
  ∃ i : Nat, s = .int .i64 i ∧ i ≤ L ∧ L - i ≤ k ∧ Both wr B R (wordsM (mem0 16) f g i) ∧ Kp noB w wr
def OnL (w : World) (B : Nat) (R : Rf) (M : Mem) (h : Nat → Int) (K k : Nat) (s : Value) (wr : World) : Prop :=
  ∃ i : Nat, s = .int .i64 i ∧ i ≤ K ∧ K - i ≤ k ∧ Both wr B R (romsM M h i) ∧ Kp noB w wr

set_option maxRecDepth 100000 in
set_option maxHeartbeats 4000000 in
theorem both_any (w : World) (x y : Option Addr) (L c K d : Nat) (f g h : Nat → Int) (hL : L ≤ 9223372036854775807) (hK : K ≤ 9223372036854775807) (hw : ∀ i, i < L → WordIn w x f g i) (ho : ∀ i, i < K → OnlyIn w y h i) :
    Calls Try.prog 10 #[.int .i64 16, .slice x L c, .slice y K d] w (BothPost w (memOf f g h L K)) := by
  have HN : Hid (∀ w, _) := fun w => new_ok w 16 (by omega) (by omega)
  have HR : Hid (∀ w, _) := fun w => refNew_ok w 16 (by omega) (by omega)
  have HS : Hid (∀ i, i < L → WordIn w x f g i) := hw
  have HT : Hid (∀ i, i < K → OnlyIn w y h i) := ho
  clear hw ho
  go_enter Try.func10, Try.ntmps10
  go_wp2_with fail
  refine (HN.out _).mono ?_; rintro e w2 ⟨rfl, hr2, hz2, kb2⟩
  go_wp2_with fail
  refine (HR.out _).mono ?_; rintro e w3 ⟨R, rfl, hf3, hout, k3⟩
  obtain ⟨B, hB⟩ : ∃ B, B = w.heap.size := ⟨_, rfl⟩
  rw [← hB] at hr2 hz2 ⊢
  have hB3 : Both w3 B R (mem0 16) := ⟨hr2.kp k3 (fun _ _ f => f), hf3, fun j hj f => by have := hout j hj; have := f.2; have e : (mem0 16).n = 16 := rfl; rw [e] at this; omega⟩
  have kk3 : Kp noB w w3 := (Kp.ofBelow (S := noB) kb2 (fun j h1 h2 => absurd h1 (by omega))).trans k3
  have HO : Hid (∀ j, both B 16 R j → w.heap.size ≤ j) := fun j hj => by
    rcases hj with f | f
    · have := f.1; omega
    · have := hout j f; omega
  clear HN HR hout kb2 k3 hf3 hr2 hz2 hB
  go_wp2_with fail
  go_loopg [12] L (WdL w B R f g L)
  case atStart => exact ⟨0, rfl, Nat.zero_le _, Nat.le_refl _, hB3, kk3⟩
  case round =>
    clear hB3 kk3
    obtain ⟨i, rfl, hi1, hik, hBo, kk⟩ := hrel
    by_cases hlt : (i : Int) < (L : Int)
    · have hi' : i < L := by omega
      have hst : wordsM (mem0 16) f g (i + 1) = (wordsM (mem0 16) f g i).lay false (f i) (bytesV (g i)) := rfl
      have hnn := (wordsM_same (mem0 16) f g i).1
      have hnn1 := (wordsM_same (mem0 16) f g (i + 1)).1
      have e16 : (mem0 16).n = 16 := rfl
      rw [e16] at hnn hnn1
      obtain ⟨blk, off, rfl, hblk, c0, c1, a0, a1, v0, v1⟩ := (HS.out i hi').kp kk
      have hblk0 : blk < w.heap.size := by obtain ⟨b', o', e1, h2, _⟩ := HS.out i hi'; cases e1; exact h2
      have nb : ¬ both B 16 R blk := fun f => by have := HO.out _ f; omega
      have HJ2 : Hid (wordsM (mem0 16) f g (i + 1) = (wordsM (mem0 16) f g i).lay false (f i) (bytesV (g i))) := hst
      obtain ⟨M, hM⟩ : ∃ M, M = wordsM (mem0 16) f g i := ⟨_, rfl⟩
      obtain ⟨M', hM'⟩ : ∃ M', M' = wordsM (mem0 16) f g (i + 1) := ⟨_, rfl⟩
      rw [← hM] at hBo hnn hst
      rw [← hM'] at hnn1 hst
      have HM' : Hid (M' = wordsM (mem0 16) f g (i + 1)) := hM'
      generalize f i = a at *
      generalize g i = v at *
      have HC : Hid (∀ W, RamAt W B M → Calls Try.prog 26 #[.pointer (some ⟨B + 3, 0, none⟩), .int .u32 a, .int .i64 4, .int .u32 v] W (fun e w' => e = .returned (.int .i64 0) ∧ RamAt w' B M' ∧ Kp (inRam B 16) W w')) := fun W hW => by
        have := write_ok W B M hW a 4 v a0 a1 v0 v1 rfl
        rw [hnn] at this
        rw [hst]
        exact this
      have HD : Hid (∀ W, RefAt W R M → Calls Try.prog 27 #[.pointer (some ⟨R.r, 0, none⟩), .int .u32 a, .int .i64 4, .int .u32 v] W (fun e w' => e = .returned (.int .i64 0) ∧ RefAt w' R M' ∧ Kp R.has W w')) := fun W hW => by
        have := refWrite_ok W R M hW a 4 v a0 a1 v0 v1 rfl
        rw [hst]
        exact this
      obtain ⟨j, hj⟩ : ∃ j, j = i + 1 := ⟨_, rfl⟩
      have HJ : Hid (j = i + 1) := hj
      have HK : Hid (L - i ≤ gk) := hik
      have HAp : Hid (∀ j, R.has j → ¬ inRam B 16 j) := fun j hj f => by have := hBo.ap j hj; rw [hnn] at this; exact this f
      have hra := hBo.ram
      have hrf := hBo.ref
      clear hj hik hM hM' hst hBo HJ2
      go_upto_region 10 with fail
      go_region_with (go_at_call 26; refine (HC.out _ (hra.drewN 1)).mono ?_; rintro e w4 ⟨rfl, hr4, k4⟩)
      all_goals
        have k4' : Kp (inRam B 16) wr w4 := ⟨k4.os, k4.tape, k4.output, k4.size, k4.block⟩
        replace c0 := cell_kp c0 k4' (fun f => nb (.inl f))
        replace c1 := cell_kp c1 k4' (fun f => nb (.inl f))
        have hf4 := hrf.kp k4' (fun j hj f => HAp.out j hj f)
        have kk4 : Kp noB w w4 := kk.over k4' (fun t ht f => by have := HO.out t (.inl f); omega)
        clear k4 k4' hra hrf
        go_upto_region 11 with fail
        go_region_with (go_at_call 27; refine (HD.out _ (hf4.drewN 1)).mono ?_; rintro e w5 ⟨rfl, hf5, k5⟩)
      all_goals
        have k5' : Kp R.has w4 w5 := ⟨k5.os, k5.tape, k5.output, k5.size, k5.block⟩
        have hr5 := hr4.kp k5' (fun j hj f => HAp.out j f (by rw [hnn1] at hj; exact hj))
        have kk5 : Kp noB w w5 := kk4.over k5' (fun t ht f => by have := HO.out t (.inr f); omega)
        go_wp2_with fail
        go_roundg (L - j)
        case measure => have := HJ.out; have := HK.out; omega
        case rel => exact ⟨j, by rw [HJ.out]; rfl, by have := HJ.out; omega, Nat.le_refl _, by rw [HJ.out, ← HM'.out]; exact ⟨hr5, hf5, fun j hj f => HAp.out j hj (by rw [hnn1] at f; exact f)⟩, kk5⟩
    · obtain rfl : i = L := by omega
      clear hik
      have hnM : (wordsM (mem0 16) f g i).n = 16 := (wordsM_same (mem0 16) f g i).1
      have HM0 : Hid (memOf f g h i K = romsM (wordsM (mem0 16) f g i) h K) := rfl
      obtain ⟨M0, hM0⟩ : ∃ M0, M0 = wordsM (mem0 16) f g i := ⟨_, rfl⟩
      rw [← hM0] at hBo hnM HM0
      clear hM0 HS
      go_wp2_with fail
      go_loopg [13] K (OnL w B R M0 h K)
      case atStart => exact ⟨0, rfl, Nat.zero_le _, Nat.le_refl _, hBo, kk⟩
      case round =>
        clear hBo kk
        obtain ⟨m, rfl, hm1, hmk, hBo, kk⟩ := hrel
        by_cases hlt' : (m : Int) < (K : Int)
        · have hm' : m < K := by omega
          have hst : romsM M0 h (m + 1) = romM (romsM M0 h m) (h m) := rfl
          have hnn := (romsM_same M0 h m).1
          have hnn1 := (romsM_same M0 h (m + 1)).1
          rw [hnM] at hnn hnn1
          obtain ⟨blk, off, rfl, hblk, c0, a0, a1⟩ := (HT.out m hm').kp kk
          have hblk0 : blk < w.heap.size := by obtain ⟨b', o', e1, h2, _⟩ := HT.out m hm'; cases e1; exact h2
          have nb : ¬ both B 16 R blk := fun f => by have := HO.out _ f; omega
          obtain ⟨ev, HC, HD⟩ := rom_both (romsM M0 h m) B R (h m) a0 a1
          rw [← hst] at HC HD
          obtain ⟨M, hM⟩ : ∃ M, M = romsM M0 h m := ⟨_, rfl⟩
          obtain ⟨M', hM'⟩ : ∃ M', M' = romsM M0 h (m + 1) := ⟨_, rfl⟩
          rw [← hM] at hBo hnn HC HD
          rw [← hM'] at hnn1 HC HD
          have HM' : Hid (M' = romsM M0 h (m + 1)) := hM'
          generalize h m = a at *
          have HC2 : Hid _ := HC
          have HD2 : Hid _ := HD
          obtain ⟨j, hj⟩ : ∃ j, j = m + 1 := ⟨_, rfl⟩
          have HJ : Hid (j = m + 1) := hj
          have HK : Hid (K - m ≤ gk) := hmk
          have HAp : Hid (∀ j, R.has j → ¬ inRam B 16 j) := fun j hj f => by have := hBo.ap j hj; rw [hnn] at this; exact this f
          have hra := hBo.ram
          have hrf := hBo.ref
          clear hj hmk hM hM' hst hBo HC HD
          go_wp2_with fail
          refine (HC2.out _ hra).mono ?_; rintro e w4 ⟨rfl, hr4, k4⟩
          rw [hnn] at k4
          replace c0 := cell_kp c0 k4 (fun f => nb (.inl f))
          have hf4 := hrf.kp k4 (fun j hj f => HAp.out j hj f)
          have kk4 : Kp noB w w4 := kk.over k4 (fun t ht f => by have := HO.out t (.inl f); omega)
          clear k4 hra hrf
          go_wp2_with fail
          refine (HD2.out _ hf4).mono ?_; rintro e w5 ⟨rfl, hf5, k5⟩
          have hr5 := hr4.kp k5 (fun j hj f => HAp.out j f (by rw [hnn1] at hj; exact hj))
          have kk5 : Kp noB w w5 := kk4.over k5 (fun t ht f => by have := HO.out t (.inr f); omega)
          go_wp2_with fail
          go_roundg (K - j)
          case measure => have := HJ.out; have := HK.out; omega
          case rel => exact ⟨j, by rw [HJ.out]; rfl, by have := HJ.out; omega, Nat.le_refl _, by rw [HJ.out, ← HM'.out]; exact ⟨hr5, hf5, fun j hj f => HAp.out j hj (by rw [hnn1] at f; exact f)⟩, kk5⟩
        · obtain rfl : m = K := by omega
          clear hmk
          go_wp2
          refine bodyPost_ret (v := .tuple #[.pointer (some ⟨B + 3, 0, none⟩), .pointer (some ⟨R.r, 0, none⟩)]) (by simp [results, Try.results10, go_sem]) rfl ⟨B, R, rfl, by rw [HM0.out]; exact hBo, HO.out, kk⟩
end Go.Proofs.Ytmmnnafjikilpaa

/- Alike: both memories have the same bytes. -/
namespace Go.Proofs.Ytmmnnafjikilpaa
open Go.ChangeShapes Go.WideShapes Go.ChangeAt Go.RowKit Go.Maps
set_option linter.unusedVariables false

theorem u8T : Try.prog.underlying 5 = some (.int .u8) := by kernel_rfl
theorem strT : Try.prog.underlying 9 = some .string := by kernel_rfl

def allB (M : Mem) (N : Nat) : List Int := (List.range N).map (fun j => M.byte j)
theorem allB_len (M : Mem) (N : Nat) : (allB M N).length = N := by unfold allB; rw [List.length_map, List.length_range]
theorem allB_get (M : Mem) {N j : Nat} (h : j < N) : (allB M N).getD j 0 = M.byte j := by
  unfold allB
  rw [List.getD_eq_getElem?_getD, List.getElem?_map, List.getElem?_range h]
  rfl

theorem conv_ref {w : World} {R : Rf} {M : Mem} (h : RefAt w R M) {N : Nat} (hN : N = 4096 * M.n) : (convert 51 9 (.slice (some ⟨R.b, 0, none⟩) N N)).run Try.prog w = .ok (.string (strOfNums (allB M N))) w :=
  run_convert_bytes_arg (P := Try.prog) w 51 5 slice8T u8T R.b 0 N N (allB M N) (allB_len M N) (fun i hi => by
    rw [allB_get M hi, Nat.zero_add]
    exact h.cb.cell (by omega)) 9 strT

theorem conv_dump {w : World} {b : Nat} {M : Mem} {N : Nat} {cs : Array Value} (hh : w.heap[b]? = some (.cells cs 5 (0, 0))) (hc : ∀ j, j < N → cs[j]? = some (.int .u8 (M.rd ((0 + j) % 4294967296)))) (hN : N = 4096 * M.n) (hn : M.n = 16) (hcl : M.closed = false) : (convert 51 9 (.slice (some ⟨b, 0, none⟩) N N)).run Try.prog w = .ok (.string (strOfNums (allB M N))) w :=
  run_convert_bytes_arg (P := Try.prog) w 51 5 slice8T u8T b 0 N N (allB M N) (allB_len M N) (fun i hi => by
    rw [allB_get M hi, Nat.zero_add, cell_at hh, hc i hi]
    congr 2
    have e : ((0 : Int) + i) % 4294967296 = i := by omega
    rw [e]
    unfold Mem.rd Mem.place
    rw [hcl]
    simp only [Bool.false_eq_true, false_and, if_false]
    rw [if_pos (by omega), Int.toNat_natCast]) 9 strT

end Go.Proofs.Ytmmnnafjikilpaa

/- awake: the calls at the head of all statements answer as the document fixes. -/
namespace Go.Proofs.Ytmmnnafjikilpaa
open Go.ChangeShapes Go.WideShapes Go.ChangeAt Go.RowKit Go.Maps
set_option linter.unusedVariables false

def exF (i : Nat) : Int := if i = 0 then 4100 else 8200
def exG (i : Nat) : Int := if i = 0 then 8199 else 20485
def memX : Mem := memOf exF exG (fun _ => 0) 2 0
def memY : Mem := fMem memX 4096 4202787 false false false

theorem memX_ok : fOk memX 4096 4202787 false false false = true := by decide +kernel
theorem memX_fr : fFr memX 4096 4202787 = 20480 ∧ pdeA 4096 4202787 = 4100 ∧ fPte memX 4096 4202787 = 8200 ∧ fW memX 4096 4202787 = false ∧ fU memX 4096 4202787 = true := by decide +kernel
theorem memX_code : fCode memX 4096 4202787 false false false = -1 := by decide +kernel
theorem memX_walk : fWalk memX 4096 4202787 false false false = walkV 20480 4100 8200 false true := by
  unfold fWalk
  obtain ⟨h1, h2, h3, h4, h5⟩ := memX_fr
  rw [if_pos memX_ok, h1, h2, h3, h4, h5]
theorem memY_ok : fOk memY 4096 4202787 true true false = false := by decide +kernel
theorem memY_code : fCode memY 4096 4202787 true true false = 7 := by decide +kernel
theorem memY_walk : fWalk memY 4096 4202787 true true false = walkV 0 0 0 false false := by
  unfold fWalk
  rw [if_neg (by rw [memY_ok]; decide)]
theorem memY_mem : fMem memY 4096 4202787 true true false = memY := by
  unfold fMem
  rw [if_neg (by rw [memY_ok]; decide)]
theorem memY_one : memY.read 4100 4 = 8231 := by decide +kernel
theorem memY_two : memY.read 8200 4 = 20517 := by decide +kernel
theorem memX_n : memX.n = 16 := by decide +kernel
theorem memY_n : memY.n = 16 := by decide +kernel

end Go.Proofs.Ytmmnnafjikilpaa

/- What the statements on page take: an ask in a block of its own, a walk by letters. -/
namespace Go.Proofs.Ytmmnnafjikilpaa
open Go.ChangeShapes Go.WideShapes Go.ChangeAt Go.RowKit Go.Maps
set_option linter.unusedVariables false

theorem Kp.every {w w' : World} (h : Kp noB w w') : Below w.heap.size w w' := h.below (Nat.le_refl _) (fun k f => f.elim)

def askV (c l : Int) (wr us wp : Bool) : Value := .agg #[.int .u32 c, .int .u32 l, .bool wr, .bool us, .bool wp]

theorem fWalk_is (M : Mem) (c l : Int) (wr us wp : Bool) : ∃ (f p q : Int) (a b : Bool), fWalk M c l wr us wp = walkV f p q a b := by
  unfold fWalk
  split
  · exact ⟨_, _, _, _, _, rfl⟩
  · exact ⟨_, _, _, _, _, rfl⟩

theorem fCode_bd (M : Mem) (c l : Int) (wr us wp : Bool) : -1 ≤ fCode M c l wr us wp ∧ fCode M c l wr us wp ≤ 7 := by
  have := codeW_bd wr us
  unfold fCode
  split
  · split <;> omega
  · omega
end Go.Proofs.Ytmmnnafjikilpaa

/- What comes into the statements on page, as it is read: words, asks, numbers of pages. -/
namespace Go.Proofs.Ytmmnnafjikilpaa
open Go.ChangeShapes Go.WideShapes Go.ChangeAt Go.RowKit
set_option linter.unusedVariables false

theorem word_size : Try.prog.cellsOf 77 = 2 := by kernel_rfl
theorem way_size : Try.prog.cellsOf 117 = 3 := by kernel_rfl
theorem one_int : Try.prog.cellsOf 3 = 1 := by kernel_rfl
theorem one_u32 : Try.prog.cellsOf 23 = 1 := by kernel_rfl
theorem one_bool : Try.prog.cellsOf 4 = 1 := by kernel_rfl

theorem list_two {α : Type} : ∀ (l : List α), l.length = 2 → ∃ a b, l = [a, b]
  | [a, b], _ => ⟨a, b, rfl⟩
theorem list_three {α : Type} : ∀ (l : List α), l.length = 3 → ∃ a b c, l = [a, b, c]
  | [a, b, c], _ => ⟨a, b, c, rfl⟩
theorem list_five {α : Type} : ∀ (l : List α), l.length = 5 → ∃ a b c d e, l = [a, b, c, d, e]
  | [a, b, c, d, e], _ => ⟨a, b, c, d, e, rfl⟩

theorem word_cells {H : Type} {enc : TypeId × Value → H} {w : World} {base : Nat} {sp : Nat → Bool} {held : Bool} {fuel : Nat} {cs : List Value} {x : DataW H × List MemPlace} (h : DataW.trod enc Try.prog w base sp held fuel 77 cs = some x) :
    ∃ (a v : Int), cs = [.int .u32 a, .int .u32 v] ∧ (Lit.int .u32 a).wf = true ∧ (Lit.int .u32 v).wf = true := by
  cases fuel with
  | zero => simp [DataW.trod] at h
  | succ n =>
    rw [DataW.trod_step] at h
    unfold DataW.trodStep at h
    simp only [Try.underlying77] at h
    split at h
    · rename_i hl
      rw [word_size] at hl
      obtain ⟨c0, c1, rfl⟩ := list_two cs hl
      simp only [Option.map_eq_some_iff] at h
      obtain ⟨xs, hx, e1⟩ := h
      simp only [List.mapM_cons, List.mapM_nil, bind, Option.bind_eq_some_iff, pure, Option.some.injEq, one_u32, List.drop_zero, List.drop_succ_cons, List.take_succ_cons, List.take_zero] at hx
      obtain ⟨y0, h0, _, ⟨y1, h1, _, rfl, rfl⟩, rfl⟩ := hx
      obtain ⟨a, ea, rfl, wa⟩ := DataW.trod_int Try.underlying23 h0
      obtain ⟨v, eb, rfl, wv⟩ := DataW.trod_int Try.underlying23 h1
      simp at ea eb
      subst ea; subst eb
      exact ⟨a, v, rfl, wa, wv⟩
    · cases h

theorem way_cells {H : Type} {enc : TypeId × Value → H} {w : World} {base : Nat} {sp : Nat → Bool} {held : Bool} {fuel : Nat} {cs : List Value} {x : DataW H × List MemPlace} (h : DataW.trod enc Try.prog w base sp held fuel 117 cs = some x) :
    ∃ (a b c : Bool), cs = [.bool a, .bool b, .bool c] := by
  cases fuel with
  | zero => simp [DataW.trod] at h
  | succ n =>
    rw [DataW.trod_step] at h
    unfold DataW.trodStep at h
    simp only [Try.underlying117] at h
    split at h
    · rename_i hl
      rw [way_size] at hl
      obtain ⟨c0, c1, c2, rfl⟩ := list_three cs hl
      simp only [Option.map_eq_some_iff] at h
      obtain ⟨xs, hx, e1⟩ := h
      simp only [List.mapM_cons, List.mapM_nil, bind, Option.bind_eq_some_iff, pure, Option.some.injEq, one_bool, List.drop_zero, List.drop_succ_cons, List.take_succ_cons, List.take_zero] at hx
      obtain ⟨y0, h0, _, ⟨y1, h1, _, ⟨y2, h2, _, rfl, rfl⟩, rfl⟩, rfl⟩ := hx
      obtain ⟨a, ea, rfl⟩ := DataW.trod_bool Try.underlying4 h0
      obtain ⟨b, eb, rfl⟩ := DataW.trod_bool Try.underlying4 h1
      obtain ⟨c, ec, rfl⟩ := DataW.trod_bool Try.underlying4 h2
      simp at ea eb ec
      subst ea; subst eb; subst ec
      exact ⟨a, b, c, rfl⟩
    · cases h

theorem spotless {w : World} {b o : Nat} {sp : Option Nat} {v : Value} (h : w.cell? ⟨b, o, sp⟩ = some v) : sp = none := by
  cases sp with
  | none => rfl
  | some x =>
    unfold World.cell? at h
    split at h <;> simp at h

theorem spot_of2 {w : World} {base blk off K : Nat} {sp : Option Nat} {cs : List Value} (h : w.cells? base ((⟨blk, off, sp⟩ : Addr).add (0 * K)) K = some cs) (hK : 0 < K) : sp = none := by
  obtain ⟨_, hl, hg⟩ := World.cells?_some h
  have h0 := hg 0 hK
  have hl1 : 0 < cs.length := by rw [hl]; exact hK
  rw [List.getElem?_eq_getElem hl1, Nat.zero_mul] at h0
  exact spotless (w := w) (b := blk) (o := off) h0

theorem add_plain (blk off n : Nat) : (⟨blk, off, none⟩ : Addr).add n = ⟨blk, off + n, none⟩ := by
  unfold Addr.add
  split
  · rename_i hz
    rw [hz]
    rfl
  · rfl

theorem cell_below {w : World} {b o : Nat} {v : Value} (h : w.cell? ⟨b, o, none⟩ = some v) : b < w.heap.size := by
  rcases Nat.lt_or_ge b w.heap.size with g | g
  · exact g
  · simp [World.cell?, Array.getElem?_eq_none g] at h

/-- One word of a list of words. -/
def OneWord (w : World) (x : Option Addr) (i : Nat) (a v : Int) : Prop :=
  ∃ (blk off : Nat), x = some ⟨blk, off, none⟩ ∧ blk < w.heap.size ∧ w.cell? ⟨blk, off + i * 2, none⟩ = some (.int .u32 a) ∧ w.cell? ⟨blk, off + i * 2 + 1, none⟩ = some (.int .u32 v) ∧ (0 ≤ a ∧ a < 4294967296 ∧ 0 ≤ v ∧ v < 4294967296)

theorem words_in0 {H : Type} {enc : TypeId × Value → H} {w : World} {held : Bool} {fuel : Nat} {a : Option Addr} {len cap : Nat} {x : DataW H × List MemPlace} (h : DataW.trod enc Try.prog w 0 (fun _ => true) held fuel 27 [.slice a len cap] = some x) :
    len ≤ 9223372036854775807 ∧ ∀ i, i < len → ∃ y v, OneWord w a i y v := by
  rcases Go.Deep.open_slice Try.underlying27 h with ⟨e, _⟩ | ⟨a', len', cap', m, n, D, Pl, e, hb0, hlc, hm, hmm, ex, hel⟩
  · simp at e
    obtain ⟨rfl, rfl, rfl⟩ := e
    exact ⟨by omega, fun i hi => absurd hi (by omega)⟩
  · simp at e
    obtain ⟨rfl, rfl, rfl⟩ := e
    have hm' : m = cap := by simpa using hmm
    refine ⟨by unfold maxLen at hm; omega, ?_⟩
    intro i hi
    obtain ⟨cs', hcs, ht⟩ := hel i (by omega)
    obtain ⟨y, v, rfl, wy, wv⟩ := word_cells ht
    rw [word_size] at hcs
    obtain ⟨blk, off, sp⟩ := a'
    have hsp : sp = none := by
      obtain ⟨cs0, hc0, _⟩ := hel 0 (by omega)
      exact spot_of2 hc0 (by rw [word_size]; decide)
    subst hsp
    rw [add_plain] at hcs
    obtain ⟨_, _, hc⟩ := World.cells?_some hcs
    have c0 : w.cell? ⟨blk, off + i * 2, none⟩ = some (.int .u32 y) := hc 0 (by omega)
    have c1 : w.cell? ⟨blk, off + i * 2 + 1, none⟩ = some (.int .u32 v) := hc 1 (by omega)
    have by' := bounds_u32 wy
    have bv := bounds_u32 wv
    exact ⟨y, v, blk, off, rfl, cell_below c0, c0, c1, by'.1, by omega, bv.1, by omega⟩

theorem words_in {H : Type} {enc : TypeId × Value → H} {w : World} {held : Bool} {fuel : Nat} {a : Option Addr} {len cap : Nat} {x : DataW H × List MemPlace} (h : DataW.trod enc Try.prog w 0 (fun _ => true) held fuel 27 [.slice a len cap] = some x) :
    len ≤ 9223372036854775807 ∧ ∃ f g : Nat → Int, ∀ i, i < len → WordIn w a f g i := by
  obtain ⟨hl, h0⟩ := words_in0 h
  have h1 : ∀ i, ∃ q : Int × Int, i < len → OneWord w a i q.1 q.2 := fun i => by
    by_cases hi : i < len
    · obtain ⟨y, v, hh⟩ := h0 i hi
      exact ⟨(y, v), fun _ => hh⟩
    · exact ⟨(0, 0), fun f => absurd f hi⟩
  refine ⟨hl, fun i => (Classical.choose (h1 i)).1, fun i => (Classical.choose (h1 i)).2, fun i hi => ?_⟩
  exact Classical.choose_spec (h1 i) hi

/-- One number of a list of pages. -/
theorem only_in {H : Type} {enc : TypeId × Value → H} {w : World} {held : Bool} {fuel : Nat} {sl : Value} {x : DataW H × List MemPlace} (h : DataW.trod enc Try.prog w 0 (fun _ => true) held fuel 70 [sl] = some x) :
    ∃ (p : Option Addr) (l c : Nat) (g : Nat → Int), sl = .slice p l c ∧ l ≤ 9223372036854775807 ∧ ∀ i, i < l → OnlyIn w p g i := by
  rcases open_ints Try.underlying70 Try.underlying3 (by kernel_rfl) h with ⟨hcs, _⟩ | ⟨y, l, c, zs, hcs, _, hl, hm, hz, _, hcell, hwz⟩
  · simp at hcs
    exact ⟨none, 0, 0, fun _ => 0, hcs, by omega, fun i hi => absurd hi (by omega)⟩
  · simp at hcs
    have hz' : zs.length = c := by simpa using hz
    refine ⟨some y, l, c, fun i => zs.getD i 0, hcs, by unfold maxLen at hm; omega, fun i hi => ?_⟩
    have h0 : 0 < zs.length := by omega
    obtain ⟨b, off, hy, hc⟩ := ints_at hcell h0
    have hj' : i < zs.length := by omega
    have e : zs.getD i 0 ∈ zs := by rw [List.getD_eq_getElem?_getD, List.getElem?_eq_getElem hj']; exact List.getElem_mem hj'
    have bd := bounds_i64 (hwz _ e)
    exact ⟨b, off, by rw [hy], cell_below (hc i hj'), hc i hj', bd.1, bd.2⟩

/-- One ask of a list of asks. -/
def AskIn (w : World) (x : Option Addr) (i : Nat) : Prop :=
  ∃ (blk off : Nat) (c l : Int) (wr us wp : Bool), x = some ⟨blk, off, none⟩ ∧ blk < w.heap.size ∧ (w.cell? ⟨blk, off + i * 5, none⟩ = some (.int .u32 c) ∧ w.cell? ⟨blk, off + i * 5 + 1, none⟩ = some (.int .u32 l) ∧ w.cell? ⟨blk, off + i * 5 + 2, none⟩ = some (.bool wr) ∧ w.cell? ⟨blk, off + i * 5 + 3, none⟩ = some (.bool us) ∧ w.cell? ⟨blk, off + i * 5 + 4, none⟩ = some (.bool wp)) ∧ (0 ≤ c ∧ c < 4294967296 ∧ 0 ≤ l ∧ l < 4294967296)

theorem AskIn.kp {w w' : World} {x : Option Addr} {i : Nat} (h : AskIn w x i) (k : Kp noB w w') : AskIn w' x i := by
  obtain ⟨blk, off, c, l, wr, us, wp, h1, h2, ⟨c0, c1, c2, c3, c4⟩, h3⟩ := h
  exact ⟨blk, off, c, l, wr, us, wp, h1, Nat.lt_of_lt_of_le h2 k.size, ⟨cell_kp c0 k (fun f => f), cell_kp c1 k (fun f => f), cell_kp c2 k (fun f => f), cell_kp c3 k (fun f => f), cell_kp c4 k (fun f => f)⟩, h3⟩

end Go.Proofs.Ytmmnnafjikilpaa
