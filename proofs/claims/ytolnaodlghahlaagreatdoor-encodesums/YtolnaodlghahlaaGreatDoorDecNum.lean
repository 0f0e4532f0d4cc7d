/- Contracts of numbers: so many bytes, their sign, their cut. -/
import Derived.Test.YtolnaodlghahlaaGreatDoorDecTake
import Derived.LoopTactic
namespace Go.Proofs.YtolnaodlghahlaaGreatDoor
open Go.ChangeShapes Go.WideShapes Go.ChangeAt Go.RowKit
set_option linter.unusedVariables false

def numM (X : Cx) : Nat → Nat → Int → Sg → Int × Sg
  | 0, _, n, σ => (n, σ)
  | k + 1, i, n, σ => numM X k (i + 1) (n + (take X σ).1 * 256 ^ i) (take X σ).2

def bytesM (X : Cx) (s : Int) (σ : Sg) : Int × Sg := numM X s.toNat 0 0 σ

theorem or_up (n b : Int) (i : Nat) (hi : i ≤ 3) (n0 : 0 ≤ n) (n1 : n < 256 ^ i) (b0 : 0 ≤ b) (b1 : b < 256) : bits .or .u32 n (b * 256 ^ i) = n + b * 256 ^ i ∧ n + b * 256 ^ i < 256 ^ (i + 1) ∧ 0 ≤ n + b * 256 ^ i := by
  obtain ⟨m, rfl⟩ : ∃ m : Nat, n = m := ⟨n.toNat, by omega⟩
  obtain ⟨c, rfl⟩ : ∃ c : Nat, b = c := ⟨b.toNat, by omega⟩
  have hc : c < 256 := by omega
  have key : ∀ k P : Nat, P = 2 ^ k → m < P → c * P < 4294967296 → P ≤ 4294967296 → bits .or .u32 (m : Int) ((c * P : Nat) : Int) = ((m + c * P : Nat) : Int) := fun k P hP hm hb hP2 => by
    rw [u32_or m _ (by omega) (by omega) (by omega) (by omega), Int.toNat_natCast, Int.toNat_natCast]
    have e := Nat.shiftLeft_add_eq_or_of_lt (b := m) (i := k) (by omega) c
    rw [Nat.shiftLeft_eq, ← hP] at e
    rw [Nat.or_comm, ← e, Nat.add_comm]
  rcases (by omega : i = 0 ∨ i = 1 ∨ i = 2 ∨ i = 3) with rfl | rfl | rfl | rfl
  · have := key 0 1 (by decide) (by simp at n1; omega) (by omega) (by decide)
    simp at this n1 ⊢
    exact ⟨this, by omega, by omega⟩
  · have := key 8 256 (by decide) (by simp at n1; omega) (by omega) (by decide)
    simp at this n1 ⊢
    exact ⟨this, by omega, by omega⟩
  · have := key 16 65536 (by decide) (by simp at n1; omega) (by omega) (by decide)
    simp at this n1 ⊢
    exact ⟨this, by omega, by omega⟩
  · have := key 24 16777216 (by decide) (by simp at n1; omega) (by omega) (by decide)
    simp at this n1 ⊢
    exact ⟨this, by omega, by omega⟩

theorem numM_bd {X : Cx} : ∀ (k i : Nat) (n : Int) (σ : Sg), (∀ j, j < X.L → 0 ≤ X.bt j ∧ X.bt j < 256) → σ.at' ≤ X.L → k + i ≤ 4 → 0 ≤ n → n < 256 ^ i → 0 ≤ (numM X k i n σ).1 ∧ (numM X k i n σ).1 < 256 ^ (k + i)
  | 0, i, n, σ, hb, hl, hk, n0, n1 => by simpa [numM] using And.intro n0 n1
  | k + 1, i, n, σ, hb, hl, hk, n0, n1 => by
    have ht : (0 ≤ (take X σ).1 ∧ (take X σ).1 < 256) ∧ (take X σ).2.at' ≤ X.L := by
      unfold take
      split
      · exact ⟨⟨Int.le_refl _, (by decide : (0 : Int) < 256)⟩, hl⟩
      · split
        · exact ⟨⟨Int.le_refl _, (by decide : (0 : Int) < 256)⟩, hl⟩
        · split
          · exact ⟨⟨Int.le_refl _, (by decide : (0 : Int) < 256)⟩, hl⟩
          · exact ⟨hb _ (by omega), by show σ.at' + 1 ≤ X.L; omega⟩
    have o := or_up n (take X σ).1 i (by omega) n0 n1 ht.1.1 ht.1.2
    have := numM_bd k (i + 1) (n + (take X σ).1 * 256 ^ i) (take X σ).2 hb ht.2 (by omega) o.2.2 o.2.1
    rw [show k + (i + 1) = k + 1 + i by omega] at this
    exact this

set_option maxHeartbeats 1000000 in
theorem bytes_ok (w : World) (X : Cx) (σ : Sg) (h : St X w σ) (s : Int) (hs : s = 1 ∨ s = 2 ∨ s = 4) :
    Calls Tryz.prog 249 #[.pointer (some ⟨X.F, 0, none⟩), .int .i64 s] w fun e w' => e = .returned (.int .u32 (bytesM X s σ).1) ∧ Done X w (bytesM X s σ).2 w' := by
  obtain ⟨V, hV⟩ : ∃ V, V = bytesM X s σ := ⟨_, rfl⟩
  rw [← hV]
  have hs0 : 0 ≤ s := by omega
  have hs4 : s ≤ 4 := by omega
  have HV : Hid (V = bytesM X s σ) := hV
  have Hs : Hid (s = 1 ∨ s = 2 ∨ s = 4) := hs
  have Hh : Hid (St X w σ) := h
  clear hV hs h
  go_enter Tryz.func249, Tryz.ntmps249
  go_wp2
  go_loopw [5, 8] (fun vn vi wr => ∃ (i k : Nat) (n : Int) (σ' : Sg), vn = .int .u32 n ∧ vi = .int .i64 i ∧ (i : Int) + k = s ∧ 0 ≤ n ∧ n < 256 ^ i ∧ Hid (V = numM X k i n σ') ∧ Hid (Done X w σ' wr)) (fun _ vi _ => (s - intOf vi).toNat)
  case atStart => exact ⟨0, s.toNat, 0, σ, rfl, rfl, by omega, Int.le_refl _, by decide, HV, ⟨Hh.out, Kp.refl _ _⟩⟩
  case round =>
    obtain ⟨i, k, n, σ', rfl, rfl, hik, n0, n1, hv, hd⟩ := hrel
    by_cases hlt : (i : Int) < s
    · obtain ⟨k', rfl⟩ : ∃ k', k = k' + 1 := ⟨k - 1, by omega⟩
      have hst := hd.out.1
      have cT := take_ok wr X σ' hst
      have hbd := take_bd hst
      have c0 := hst.f0
      have hi3 : i ≤ 3 := by omega
      have hor := or_up n (take X σ').1 i hi3 n0 n1 hbd.1 hbd.2
      have hv2 : V = numM X k' (i + 1) (n + (take X σ').1 * 256 ^ i) (take X σ').2 := hv.out
      generalize (take X σ').1 = b at *
      generalize (take X σ').2 = σ2 at *
      obtain ⟨b0, b1⟩ := hbd
      obtain ⟨q0, q1, q2⟩ := hor
      obtain ⟨m, hm⟩ : ∃ m, m = n + b * 256 ^ i := ⟨_, rfl⟩
      rw [← hm] at q0 q1 q2 hv2
      have Hq1 : Hid (m < 256 ^ (i + 1)) := q1
      have Hq2 : Hid (0 ≤ m) := q2
      have Hv2 : Hid (V = numM X k' (i + 1) m σ2) := hv2
      have Hhd : Hid (Done X w σ' wr) := hd
      clear hv2 hv hd hst hm q1 q2 n1
      have hii : i = 0 ∨ i = 1 ∨ i = 2 ∨ i = 3 := by omega
      clear hi3
      rcases hii with rfl | rfl | rfl | rfl
      all_goals
        simp at q0
        go_wp2_with fail
        refine cT.mono ?_; rintro e w1 ⟨rfl, hd1⟩
        have Hd1 : Hid (Done X w σ2 w1) := ⟨hd1.1, Hhd.out.2.trans hd1.2⟩
        clear hd1
        go_wp2
        go_roundw
        case rel =>
          first
            | exact ⟨1, k', m, σ2, by go_num, rfl, by omega, Hq2.out, Hq1.out, Hv2, Hd1⟩
            | exact ⟨2, k', m, σ2, by go_num, rfl, by omega, Hq2.out, Hq1.out, Hv2, Hd1⟩
            | exact ⟨3, k', m, σ2, by go_num, rfl, by omega, Hq2.out, Hq1.out, Hv2, Hd1⟩
            | exact ⟨4, k', m, σ2, by go_num, rfl, by omega, Hq2.out, Hq1.out, Hv2, Hd1⟩
        case measure => simp [intOf]; omega
    · have hk : k = 0 := by omega
      subst hk
      go_wp2
      go_ret
      have hv2 : V = (n, σ') := hv.out
      rw [hv2]
      exact ⟨rfl, hd.out⟩

def sgnM (s n : Int) : Int := if s = 1 ∧ 127 < n then n + 4294967040 else if s = 2 ∧ 32767 < n then n + 4294901760 else n
def cutM (s n : Int) : Int := if s = 1 then n % 256 else if s = 2 then n % 65536 else n

theorem signed_ok (w : World) (s n : Int) (hs : s = 1 ∨ s = 2 ∨ s = 4) (n0 : 0 ≤ n) (n1 : n < 256 ^ s.toNat) :
    Calls Tryz.prog 250 #[.int .i64 s, .int .u32 n] w fun e w' => e = .returned (.int .u32 (sgnM s n)) ∧ w' = w := by
  rcases hs with rfl | rfl | rfl
  · have n2 : n < 256 := by simpa using n1
    clear n1
    go_enter Tryz.func250, Tryz.ntmps250
    go_wp2
    go_ret
    refine ⟨ret_int ?_, rfl⟩
    unfold sgnM
    by_cases hn : 127 < n
    · rw [if_pos ⟨rfl, hn⟩]
      unfold wrap32; omega
    · rw [if_neg (by omega), if_neg (by omega)]
      unfold wrap32; omega
  · have n2 : n < 65536 := by simpa using n1
    clear n1
    go_enter Tryz.func250, Tryz.ntmps250
    go_wp2
    go_ret
    refine ⟨ret_int ?_, rfl⟩
    unfold sgnM
    by_cases hn : 32767 < n
    · rw [if_neg (by omega), if_pos ⟨rfl, hn⟩]
      unfold wrap32; omega
    · rw [if_neg (by omega), if_neg (by omega)]
      unfold wrap32; omega
  · have n2 : n < 4294967296 := by simpa using n1
    clear n1
    go_enter Tryz.func250, Tryz.ntmps250
    go_wp2
    go_ret
    refine ⟨ret_int ?_, rfl⟩
    unfold sgnM
    rw [if_neg (by omega), if_neg (by omega)]
    unfold wrap32; omega

theorem cut_ok (w : World) (s n : Int) (hs : s = 1 ∨ s = 2 ∨ s = 4) (n0 : 0 ≤ n) (n1 : n < 4294967296) :
    Calls Tryz.prog 254 #[.int .i64 s, .int .u32 n] w fun e w' => e = .returned (.int .u32 (cutM s n)) ∧ w' = w := by
  rcases hs with rfl | rfl | rfl
  all_goals
    go_enter Tryz.func254, Tryz.ntmps254
    go_wp2
    go_ret
    refine ⟨ret_int ?_, rfl⟩
    simp only [cutM]
    first | omega | (simp; omega)

theorem bytesM_bd {w : World} {X : Cx} {σ : Sg} (h : St X w σ) (s : Int) (hs : s = 1 ∨ s = 2 ∨ s = 4) : 0 ≤ (bytesM X s σ).1 ∧ (bytesM X s σ).1 < 256 ^ s.toNat := by
  have := numM_bd (X := X) s.toNat 0 0 σ h.bd h.lL (by omega) (Int.le_refl _) (by decide)
  simpa [bytesM] using this

theorem pow_le (s : Int) (hs : s = 1 ∨ s = 2 ∨ s = 4) : (256 : Int) ^ s.toNat ≤ 4294967296 := by
  rcases hs with rfl | rfl | rfl <;> decide

theorem sgnM_bd (s n : Int) (hs : s = 1 ∨ s = 2 ∨ s = 4) (n0 : 0 ≤ n) (n1 : n < 256 ^ s.toNat) : 0 ≤ sgnM s n ∧ sgnM s n < 4294967296 := by
  have := pow_le s hs
  unfold sgnM
  rcases hs with rfl | rfl | rfl
  · have n2 : n < 256 := by simpa using n1
    split
    · omega
    · split <;> omega
  · have n2 : n < 65536 := by simpa using n1
    split
    · omega
    · split <;> omega
  · have n2 : n < 4294967296 := by simpa using n1
    split
    · omega
    · split <;> omega

theorem cutM_bd (s n : Int) (n0 : 0 ≤ n) (n1 : n < 4294967296) : 0 ≤ cutM s n ∧ cutM s n < 4294967296 := by
  unfold cutM
  split
  · omega
  · split <;> omega

end Go.Proofs.YtolnaodlghahlaaGreatDoor
