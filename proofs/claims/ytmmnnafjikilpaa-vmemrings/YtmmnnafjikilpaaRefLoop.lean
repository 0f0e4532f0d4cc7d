/- The document's own memory: reading, writing and laying by bytes. -/
import Derived.Test.YtmmnnafjikilpaaRefPut
import Derived.Deep.LoopGhost
namespace Go.Proofs.Ytmmnnafjikilpaa
open Go.ChangeShapes Go.WideShapes Go.ChangeAt Go.RowKit Go.Maps
set_option linter.unusedVariables false

theorem lay_snoc (all : Bool) (M : Mem) (a : Int) (xs : List Int) (y : Int) (a0 : 0 ≤ a) (a1 : a < 4294967296) : M.lay all a (xs ++ [y]) = (M.lay all a xs).put all ((a + xs.length) % 4294967296) y := by
  rw [lay_append all xs [y] M a a0 a1]; rfl

def WrL (w : World) (R : Rf) (M : Mem) (x v : Int) (n k : Nat) (s : Value) (wr : World) : Prop :=
  ∃ i : Nat, s = .int .i64 i ∧ i ≤ n ∧ n - i ≤ k ∧ RefAt wr R (M.lay false x ((bytesV v).take i)) ∧ Kp R.has w wr

theorem take_byte (v : Int) (i : Nat) (h : i < 4) : (bytesV v).take (i + 1) = (bytesV v).take i ++ [(bytesV v).getD i 0] := by
  rcases (by omega : i = 0 ∨ i = 1 ∨ i = 2 ∨ i = 3) with rfl | rfl | rfl | rfl <;> rfl

theorem lay_step (M : Mem) (x v : Int) (i : Nat) (h : i < 4) (x0 : 0 ≤ x) (x1 : x < 4294967296) : M.lay false x ((bytesV v).take (i + 1)) = (M.lay false x ((bytesV v).take i)).put false ((x + i) % 4294967296) ((bytesV v).getD i 0) := by
  rw [take_byte v i h, lay_snoc _ _ _ _ _ x0 x1]
  have : ((bytesV v).take i).length = i := by simp [bytesV]; omega
  rw [this]

set_option maxRecDepth 100000 in
set_option maxHeartbeats 1000000 in
theorem refWrite_ok (w : World) (R : Rf) (M : Mem) (h : RefAt w R M) (x s v : Int) (x0 : 0 ≤ x) (x1 : x < 4294967296) (v0 : 0 ≤ v) (v1 : v < 4294967296) (hs : okS s = true) :
    Calls Try.prog 27 #[.pointer (some ⟨R.r, 0, none⟩), .int .u32 x, .int .i64 s, .int .u32 v] w fun e w' => e = .returned (.int .i64 0) ∧ RefAt w' R (M.lay false x ((bytesV v).take s.toNat)) ∧ Kp R.has w w' := by
  have hs1 : s = 1 ∨ s = 2 ∨ s = 4 := by simpa [okS] using hs
  obtain ⟨n, hn⟩ : ∃ n : Nat, n = s.toNat := ⟨_, rfl⟩
  rw [← hn]
  have n4 : n ≤ 4 := by omega
  have es : s = (n : Int) := by omega
  have HN : Hid (s = (n : Int)) := es
  clear hn es hs
  rcases hs1 with rfl | rfl | rfl
  all_goals
    go_enter Try.func27, Try.ntmps27
    go_wp2_with fail
    go_loopg [9] n (WrL w R M x v n)
    case atStart => exact ⟨0, rfl, Nat.zero_le _, Nat.le_refl _, h, Kp.refl _ _⟩
    case round =>
      obtain ⟨i, rfl, hi, hik, hr, kk⟩ := hrel
      have hn := HN.out
      by_cases hlt : i < n
      · have hz : (i : Int) < (n : Int) := by omega
        rw [← hn] at hz
        have st := lay_step M x v i (by omega) x0 x1
        have cP := refPut_any wr R _ hr ((x + i) % 4294967296) ((bytesV v).getD i 0) false (by omega) (by omega)
        rw [← st] at cP
        have HC : Hid (∀ z bv : Int, z = (x + i) % 4294967296 → bv = (bytesV v).getD i 0 → Calls Try.prog 48 #[.pointer (some ⟨R.r, 0, none⟩), .int .u32 z, .int .u8 bv, .bool false] wr (PutPost wr R (M.lay false x ((bytesV v).take (i + 1))))) := by
          rintro _ _ rfl rfl; exact cP
        obtain ⟨j, hj⟩ : ∃ j, j = i + 1 := ⟨_, rfl⟩
        have HJ : Hid (j = i + 1) := hj
        have HK : Hid (n - i ≤ gk) := hik
        clear st hr hn hik cP hj
        rcases (by omega : i = 0 ∨ i = 1 ∨ i = 2 ∨ i = 3) with rfl | rfl | rfl | rfl
        all_goals first
          | (exfalso; omega)
          | skip
        all_goals go_wp2_with fail
        all_goals
          refine (HC.out _ _ (by omega) (by first | rfl | (show v / 16777216 % 256 = v / 16777216; omega))).mono ?_
          rintro e w1 ⟨rfl, h1, k1⟩
          clear HC
          go_wp2_with fail
          go_roundg (n - j)
          case measure => have := HJ.out; have := HK.out; omega
          case rel => exact ⟨j, by rw [HJ.out]; rfl, by have := HJ.out; omega, Nat.le_refl _, by rw [HJ.out]; exact h1, kk.trans k1⟩
      · have hz : ¬ (i : Int) < (n : Int) := by omega
        rw [← hn] at hz
        obtain rfl : i = n := by omega
        clear hn hik
        go_wp2
        go_ret
        exact ⟨rfl, hr, kk⟩

set_option maxRecDepth 100000 in
theorem refWrite_no (w : World) (b : Addr) (x s v : Int) (h : okS s = false) :
    Calls Try.prog 27 #[.pointer (some b), .int .u32 x, .int .i64 s, .int .u32 v] w fun e w' => e = .returned (.int .i64 2) ∧ w' = w := by
  have ne : ¬ s = 1 ∧ ¬ s = 2 ∧ ¬ s = 4 := by simpa [okS] using h
  obtain ⟨n1, n2, n4⟩ := ne
  have e1 : (s != 1) = true := by simp [n1]
  have e2 : (s != 2) = true := by simp [n2]
  have e4 : (s != 4) = true := by simp [n4]
  clear n1 n2 n4
  go_enter Try.func27, Try.ntmps27
  go_wp2
  go_ret
  exact ⟨rfl, rfl⟩

/-- What has been read so far. -/
def RdS (M : Mem) (x : Int) : Nat → Int
  | 0 => 0
  | i + 1 => RdS M x i + M.rd ((x + i) % 4294967296) * 256 ^ i

theorem RdS_bd (M : Mem) (x : Int) (hb : ∀ a : Int, 0 ≤ a → a < 4294967296 → 0 ≤ M.rd a ∧ M.rd a < 256) (i : Nat) (hi : i < 4) : 0 ≤ RdS M x i ∧ RdS M x i < 16777216 := by
  have r0 := hb ((x + 0) % 4294967296) (by omega) (by omega)
  have r1 := hb ((x + 1) % 4294967296) (by omega) (by omega)
  have r2 := hb ((x + 2) % 4294967296) (by omega) (by omega)
  rcases (by omega : i = 0 ∨ i = 1 ∨ i = 2 ∨ i = 3) with rfl | rfl | rfl | rfl
  · show 0 ≤ (0 : Int) ∧ (0 : Int) < 16777216
    omega
  · show 0 ≤ 0 + M.rd ((x + 0) % 4294967296) * 1 ∧ 0 + M.rd ((x + 0) % 4294967296) * 1 < 16777216
    omega
  · show 0 ≤ 0 + M.rd ((x + 0) % 4294967296) * 1 + M.rd ((x + 1) % 4294967296) * 256 ∧ 0 + M.rd ((x + 0) % 4294967296) * 1 + M.rd ((x + 1) % 4294967296) * 256 < 16777216
    omega
  · show 0 ≤ 0 + M.rd ((x + 0) % 4294967296) * 1 + M.rd ((x + 1) % 4294967296) * 256 + M.rd ((x + 2) % 4294967296) * 65536 ∧ 0 + M.rd ((x + 0) % 4294967296) * 1 + M.rd ((x + 1) % 4294967296) * 256 + M.rd ((x + 2) % 4294967296) * 65536 < 16777216
    omega

theorem RdS_read (M : Mem) (x : Int) (n : Nat) (hn : n = 1 ∨ n = 2 ∨ n = 4) : RdS M x n = M.read x n := by
  unfold Mem.read cellB
  rcases hn with rfl | rfl | rfl
  · simp [RdS]
  · simp [RdS]
  · simp [RdS]

def RdL (w : World) (M : Mem) (x : Int) (n k : Nat) (s8 s9 : Value) (wr : World) : Prop :=
  ∃ i : Nat, s9 = .int .i64 i ∧ s8 = .int .u32 (RdS M x i) ∧ i ≤ n ∧ n - i ≤ k ∧ Kp noB w wr

theorem take_getD (vs : List Int) (i : Nat) (h : i < vs.length) : vs.take (i + 1) = vs.take i ++ [vs.getD i 0] := by
  rw [List.take_succ_eq_append_getElem h]
  simp [h]

def LdL (w : World) (R : Rf) (M : Mem) (x : Int) (vs : List Int) (L k : Nat) (s : Value) (wr : World) : Prop :=
  ∃ i : Nat, s = .int .i64 i ∧ i ≤ L ∧ L - i ≤ k ∧ RefAt wr R (M.lay true x (vs.take i)) ∧ Kp R.has w wr

end Go.Proofs.Ytmmnnafjikilpaa
