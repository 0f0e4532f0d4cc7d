/- Contracts of Pack, and of the document's question whether a descriptor can be packed. -/
import Derived.Test.YtpgionhhjmlmmaaSegLeaf
import Derived.Test.YtpgionhhjmlmmaaSegWord
namespace Go.Proofs.Ytpgionhhjmlmmaa
open Go.ChangeShapes Go.WideShapes Go.ChangeAt Go.RowKit
set_option linter.unusedVariables false


def mpow (k : Int) : Int := if k = 12 then 4096 else if k = 15 then 32768 else if k = 22 then 4194304 else 8388608

theorem mark_any (k : Int) (q : Bool) (w : World) (hk : k = 12 ∨ k = 15 ∨ k = 22 ∨ k = 23) : Calls Try.prog 22 #[.int .u64 k, .bool q] w fun e w' => e = .returned (.int .u32 (flg q (mpow k))) ∧ w' = w := by
  rcases hk with rfl | rfl | rfl | rfl
  all_goals
    cases q
    all_goals
      go_enter Try.func22, Try.ntmps22
      go_wp2
      go_ret
      exact ⟨rfl, rfl⟩


def pgs (l : Int) : Bool := decide (1048575 < l)
def okP (l t d : Int) : Bool := decide (0 ≤ t) && decide (t < 16) && decide (0 ≤ d) && decide (d < 4) && (decide (l ≤ 1048575) || decide (l % 4096 = 4095))
def lmP (l : Int) : Int := if l ≤ 1048575 then l else l / 4096
def loP (b m : Int) : Int := bits .or .u32 (b * 65536 % 4294967296) (bits .and .u32 m 65535)
def h1P (b m : Int) : Int := bits .or .u32 (bits .or .u32 (bits .and .u32 (b / 65536) 255) (bits .and .u32 b 4278190080)) (bits .and .u32 m 983040)
def h2P (x t d : Int) : Int := bits .or .u32 x (bits .or .u32 (t * 256) (d * 8192))
def h3P (x : Int) (s p g q : Bool) : Int := bits .or .u32 x (bits .or .u32 (bits .or .u32 (bits .or .u32 (flg s 4096) (flg p 32768)) (flg g 4194304)) (flg q 8388608))


set_option maxHeartbeats 2000000 in
theorem pk_t0 (b l t : Int) (s : Bool) (d : Int) (p g : Bool) (w : World) (b0 : 0 ≤ b) (b1 : b < 4294967296) (l0 : 0 ≤ l) (l1 : l < 4294967296) (h : t < 0) :
    Calls Try.prog 12 #[.agg #[.int .u32 b, .int .u32 l, .int .i64 t, .bool s, .int .i64 d, .bool p, .bool g]] w fun e w' => e = .returned (.tuple #[.int .u32 0, .int .u32 0, .int .i64 80]) ∧ Grown w w' := by
  have e1 : decide (t < 0) = true := by simpa using h
  go_enter Try.func12, Try.ntmps12
  go_wp2
  exact bodyPost_ret (v := .tuple #[.int .u32 0, .int .u32 0, .int .i64 80]) (by simp [results, Try.results12, go_sem]) rfl ⟨rfl, Grown.alloc (Grown.refl _) _ _⟩


set_option maxHeartbeats 2000000 in
theorem pk_t1 (b l t : Int) (s : Bool) (d : Int) (p g : Bool) (w : World) (b0 : 0 ≤ b) (b1 : b < 4294967296) (l0 : 0 ≤ l) (l1 : l < 4294967296) (h : 15 < t) :
    Calls Try.prog 12 #[.agg #[.int .u32 b, .int .u32 l, .int .i64 t, .bool s, .int .i64 d, .bool p, .bool g]] w fun e w' => e = .returned (.tuple #[.int .u32 0, .int .u32 0, .int .i64 80]) ∧ Grown w w' := by
  have e1 : decide (t < 0) = false := by simp; omega
  have e2 : decide (15 < t) = true := by simpa using h
  go_enter Try.func12, Try.ntmps12
  go_wp2
  exact bodyPost_ret (v := .tuple #[.int .u32 0, .int .u32 0, .int .i64 80]) (by simp [results, Try.results12, go_sem]) rfl ⟨rfl, Grown.alloc (Grown.refl _) _ _⟩


set_option maxHeartbeats 2000000 in
theorem pk_d0 (b l t : Int) (s : Bool) (d : Int) (p g : Bool) (w : World) (b0 : 0 ≤ b) (b1 : b < 4294967296) (l0 : 0 ≤ l) (l1 : l < 4294967296) (h1 : 0 ≤ t) (h2 : t < 16) (h : d < 0) :
    Calls Try.prog 12 #[.agg #[.int .u32 b, .int .u32 l, .int .i64 t, .bool s, .int .i64 d, .bool p, .bool g]] w fun e w' => e = .returned (.tuple #[.int .u32 0, .int .u32 0, .int .i64 80]) ∧ Grown w w' := by
  have e1 : decide (t < 0) = false := by simp; omega
  have e2 : decide (15 < t) = false := by simp; omega
  have e3 : decide (d < 0) = true := by simpa using h
  go_enter Try.func12, Try.ntmps12
  go_wp2
  exact bodyPost_ret (v := .tuple #[.int .u32 0, .int .u32 0, .int .i64 80]) (by simp [results, Try.results12, go_sem]) rfl ⟨rfl, Grown.alloc (Grown.refl _) _ _⟩


set_option maxHeartbeats 2000000 in
theorem pk_d1 (b l t : Int) (s : Bool) (d : Int) (p g : Bool) (w : World) (b0 : 0 ≤ b) (b1 : b < 4294967296) (l0 : 0 ≤ l) (l1 : l < 4294967296) (h1 : 0 ≤ t) (h2 : t < 16) (h : 3 < d) :
    Calls Try.prog 12 #[.agg #[.int .u32 b, .int .u32 l, .int .i64 t, .bool s, .int .i64 d, .bool p, .bool g]] w fun e w' => e = .returned (.tuple #[.int .u32 0, .int .u32 0, .int .i64 80]) ∧ Grown w w' := by
  have e1 : decide (t < 0) = false := by simp; omega
  have e2 : decide (15 < t) = false := by simp; omega
  have e3 : decide (d < 0) = false := by simp; omega
  have e4 : decide (3 < d) = true := by simpa using h
  go_enter Try.func12, Try.ntmps12
  go_wp2
  exact bodyPost_ret (v := .tuple #[.int .u32 0, .int .u32 0, .int .i64 80]) (by simp [results, Try.results12, go_sem]) rfl ⟨rfl, Grown.alloc (Grown.refl _) _ _⟩


set_option maxHeartbeats 2000000 in
theorem pk_l (b l t : Int) (s : Bool) (d : Int) (p g : Bool) (w : World) (b0 : 0 ≤ b) (b1 : b < 4294967296) (l0 : 0 ≤ l) (l1 : l < 4294967296) (h1 : 0 ≤ t) (h2 : t < 16) (h3 : 0 ≤ d) (h4 : d < 4) (h : 1048575 < l) (h5 : ¬ l % 4096 = 4095) :
    Calls Try.prog 12 #[.agg #[.int .u32 b, .int .u32 l, .int .i64 t, .bool s, .int .i64 d, .bool p, .bool g]] w fun e w' => e = .returned (.tuple #[.int .u32 0, .int .u32 0, .int .i64 80]) ∧ Grown w w' := by
  have e1 : decide (t < 0) = false := by simp; omega
  have e2 : decide (15 < t) = false := by simp; omega
  have e3 : decide (d < 0) = false := by simp; omega
  have e4 : decide (3 < d) = false := by simp; omega
  have a4 : bits .and .u32 l 4095 = l % 4096 := and_low l0 l1 4095 12 (by decide) (by decide)
  have e5 : decide (1048575 < l) = true := by simpa using h
  have e6 : (l % 4096 != 4095) = true := by simpa using h5
  go_enter Try.func12, Try.ntmps12
  go_wp2
  exact bodyPost_ret (v := .tuple #[.int .u32 0, .int .u32 0, .int .i64 80]) (by simp [results, Try.results12, go_sem]) rfl ⟨rfl, Grown.alloc (Grown.refl _) _ _⟩


set_option maxHeartbeats 2000000 in
theorem pk_small (b l t : Int) (s : Bool) (d : Int) (p g : Bool) (w : World) (b0 : 0 ≤ b) (b1 : b < 4294967296) (l0 : 0 ≤ l) (l1 : l < 4294967296) (m : Int) (h1 : 0 ≤ t) (h2 : t < 16) (h3 : 0 ≤ d) (h4 : d < 4) (h : l ≤ 1048575) (hm : m = l) :
    Calls Try.prog 12 #[.agg #[.int .u32 b, .int .u32 l, .int .i64 t, .bool s, .int .i64 d, .bool p, .bool g]] w fun e w' => e = .returned (.tuple #[.int .u32 (loP b m), .int .u32 (h3P (h2P (h1P b m) t d) (!s) p g false), .int .i64 0]) ∧ Grown w w' := by
  have e1 : decide (t < 0) = false := by simp; omega
  have e2 : decide (15 < t) = false := by simp; omega
  have e3 : decide (d < 0) = false := by simp; omega
  have e4 : decide (3 < d) = false := by simp; omega
  have e5 : decide (1048575 < l) = false := by simpa using h
  subst hm
  have p12 : mpow 12 = 4096 := rfl
  have p15 : mpow 15 = 32768 := rfl
  have p22 : mpow 22 = 4194304 := rfl
  have p23 : mpow 23 = 8388608 := rfl
  have f1 : bits .or .u32 (b * 65536 % 4294967296) (bits .and .u32 m 65535) = loP b m := rfl
  have f2 : bits .or .u32 (bits .or .u32 (bits .and .u32 (b / 65536) 255) (bits .and .u32 b 4278190080)) (bits .and .u32 m 983040) = h1P b m := rfl
  have f3 : ∀ x, bits .or .u32 x (bits .or .u32 (t * 256) (d * 8192)) = h2P x t d := fun _ => rfl
  have f4 : ∀ x, bits .or .u32 x (bits .or .u32 (bits .or .u32 (bits .or .u32 (flg (!s) 4096) (flg p 32768)) (flg g 4194304)) (flg false 8388608)) = h3P x (!s) p g false := fun _ => rfl
  go_enter Try.func12, Try.ntmps12
  go_wp2
  go_quiet ((go_at_call 22; exact Calls.quiet_of_same (mark_any _ _ _ (by decide))))
  go_wp2
  exact bodyPost_ret (v := .tuple #[.int .u32 (loP b m), .int .u32 (h3P (h2P (h1P b m) t d) (!s) p g false), .int .i64 0]) (by simp [results, Try.results12, go_sem]) rfl ⟨rfl, Grown.drewN (Grown.alloc (Grown.refl _) _ _) _⟩


set_option maxHeartbeats 2000000 in
theorem pk_large (b l t : Int) (s : Bool) (d : Int) (p g : Bool) (w : World) (b0 : 0 ≤ b) (b1 : b < 4294967296) (l0 : 0 ≤ l) (l1 : l < 4294967296) (m : Int) (h1 : 0 ≤ t) (h2 : t < 16) (h3 : 0 ≤ d) (h4 : d < 4) (h : 1048575 < l) (h5 : l % 4096 = 4095) (hm : m = l / 4096) :
    Calls Try.prog 12 #[.agg #[.int .u32 b, .int .u32 l, .int .i64 t, .bool s, .int .i64 d, .bool p, .bool g]] w fun e w' => e = .returned (.tuple #[.int .u32 (loP b m), .int .u32 (h3P (h2P (h1P b m) t d) (!s) p g true), .int .i64 0]) ∧ Grown w w' := by
  have e1 : decide (t < 0) = false := by simp; omega
  have e2 : decide (15 < t) = false := by simp; omega
  have e3 : decide (d < 0) = false := by simp; omega
  have e4 : decide (3 < d) = false := by simp; omega
  have a4 : bits .and .u32 l 4095 = l % 4096 := and_low l0 l1 4095 12 (by decide) (by decide)
  have e5 : decide (1048575 < l) = true := by simpa using h
  have e6 : (l % 4096 != 4095) = false := by simpa using h5
  have e7 : l / 4096 = m := hm.symm
  clear hm
  have p12 : mpow 12 = 4096 := rfl
  have p15 : mpow 15 = 32768 := rfl
  have p22 : mpow 22 = 4194304 := rfl
  have p23 : mpow 23 = 8388608 := rfl
  have f1 : bits .or .u32 (b * 65536 % 4294967296) (bits .and .u32 m 65535) = loP b m := rfl
  have f2 : bits .or .u32 (bits .or .u32 (bits .and .u32 (b / 65536) 255) (bits .and .u32 b 4278190080)) (bits .and .u32 m 983040) = h1P b m := rfl
  have f3 : ∀ x, bits .or .u32 x (bits .or .u32 (t * 256) (d * 8192)) = h2P x t d := fun _ => rfl
  have f4 : ∀ x, bits .or .u32 x (bits .or .u32 (bits .or .u32 (bits .or .u32 (flg (!s) 4096) (flg p 32768)) (flg g 4194304)) (flg true 8388608)) = h3P x (!s) p g true := fun _ => rfl
  go_enter Try.func12, Try.ntmps12
  go_wp2
  go_quiet ((go_at_call 22; exact Calls.quiet_of_same (mark_any _ _ _ (by decide))))
  go_wp2
  exact bodyPost_ret (v := .tuple #[.int .u32 (loP b m), .int .u32 (h3P (h2P (h1P b m) t d) (!s) p g true), .int .i64 0]) (by simp [results, Try.results12, go_sem]) rfl ⟨rfl, Grown.drewN (Grown.alloc (Grown.refl _) _ _) _⟩


theorem pack_ok (b l t : Int) (s : Bool) (d : Int) (p g : Bool) (w : World) (b0 : 0 ≤ b) (b1 : b < 4294967296) (l0 : 0 ≤ l) (l1 : l < 4294967296) (h : okP l t d = true) :
    Calls Try.prog 12 #[.agg #[.int .u32 b, .int .u32 l, .int .i64 t, .bool s, .int .i64 d, .bool p, .bool g]] w fun e w' => e = .returned (.tuple #[.int .u32 (loP b (lmP l)), .int .u32 (h3P (h2P (h1P b (lmP l)) t d) (!s) p g (pgs l)), .int .i64 0]) ∧ Grown w w' := by
  simp only [okP, Bool.and_eq_true, Bool.or_eq_true, decide_eq_true_eq] at h
  obtain ⟨⟨⟨⟨h1, h2⟩, h3⟩, h4⟩, h5⟩ := h
  by_cases hl : l ≤ 1048575
  · have e : lmP l = l := if_pos hl
    have q : pgs l = false := by unfold pgs; simpa using hl
    rw [e, q]
    exact pk_small b l t s d p g w b0 b1 l0 l1 l h1 h2 h3 h4 hl rfl
  · have e : lmP l = l / 4096 := if_neg hl
    have q : pgs l = true := by unfold pgs; simp; omega
    rw [e, q]
    exact pk_large b l t s d p g w b0 b1 l0 l1 _ h1 h2 h3 h4 (by omega) (by omega) rfl

theorem pack_no (b l t : Int) (s : Bool) (d : Int) (p g : Bool) (w : World) (b0 : 0 ≤ b) (b1 : b < 4294967296) (l0 : 0 ≤ l) (l1 : l < 4294967296) (h : okP l t d = false) :
    Calls Try.prog 12 #[.agg #[.int .u32 b, .int .u32 l, .int .i64 t, .bool s, .int .i64 d, .bool p, .bool g]] w fun e w' => e = .returned (.tuple #[.int .u32 0, .int .u32 0, .int .i64 80]) ∧ Grown w w' := by
  by_cases h1 : t < 0
  · exact pk_t0 b l t s d p g w b0 b1 l0 l1 h1
  by_cases h2 : 15 < t
  · exact pk_t1 b l t s d p g w b0 b1 l0 l1 h2
  by_cases h3 : d < 0
  · exact pk_d0 b l t s d p g w b0 b1 l0 l1 (by omega) (by omega) h3
  by_cases h4 : 3 < d
  · exact pk_d1 b l t s d p g w b0 b1 l0 l1 (by omega) (by omega) h4
  have h5 : ¬ (l ≤ 1048575 ∨ l % 4096 = 4095) := by
    intro x
    have : okP l t d = true := by
      simp only [okP, Bool.and_eq_true, Bool.or_eq_true, decide_eq_true_eq]
      exact ⟨⟨⟨⟨by omega, by omega⟩, by omega⟩, by omega⟩, x⟩
    rw [this] at h
    cases h
  exact pk_l b l t s d p g w b0 b1 l0 l1 (by omega) (by omega) (by omega) (by omega) (by omega) (fun x => h5 (Or.inr x))

set_option maxHeartbeats 1000000 in
theorem packed_any (b l t : Int) (s : Bool) (d : Int) (p g : Bool) (w : World) (l0 : 0 ≤ l) (l1 : l < 4294967296) : Calls Try.prog 13 #[.agg #[.int .u32 b, .int .u32 l, .int .i64 t, .bool s, .int .i64 d, .bool p, .bool g]] w fun e w' => e = .returned (.bool (okP l t d)) ∧ Grown w w' := by
  go_enter Try.func13, Try.ntmps13
  go_wp2
  all_goals go_ret
  all_goals refine ⟨ret_bool ?_, Grown.alloc (Grown.refl _) _ _⟩
  all_goals first
    | (simp [okP]; done)
    | (simp [okP]; omega)
    | (simp_all [okP]; done)
    | (simp_all [okP]; omega)
    | (by_cases hq : l % 4096 = 4095 <;> simp_all [okP] <;> omega)
end Go.Proofs.Ytpgionhhjmlmmaa
