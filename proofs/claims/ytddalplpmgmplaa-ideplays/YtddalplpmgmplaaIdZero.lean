/- The zero values of the great types: rows of noughts. -/
import Derived.Test.YtddalplpmgmplaaIdBase
namespace Go.Proofs.Ytddalplpmgmplaa
open Go.RowKit
set_option linter.unusedVariables false

def z8 : Value := .int .u8 0
def zr (n : Nat) : List Value := List.replicate n z8
def zp (n : Nat) (l : List Value) : List Value := zr n ++ l

theorem zr_one : [Value.int .u8 0] = zr 1 := rfl
theorem zr_cons (n : Nat) : Value.int .u8 0 :: zr n = zr (n + 1) := rfl
theorem zr_app (a b : Nat) : List.append (zr a) (zr b) = zr (a + b) := by
  show List.replicate a z8 ++ List.replicate b z8 = _
  rw [List.replicate_append_replicate]
  rfl
theorem zp_app (a : Nat) (l : List Value) : List.append (zr a) l = zp a l := rfl
theorem zp_zr (a b : Nat) : zp a (zr b) = zr (a + b) := zr_app a b
theorem zp_zp (a b : Nat) (l : List Value) : zp a (zp b l) = zp (a + b) l := by
  unfold zp
  rw [← List.append_assoc]
  congr 1
  exact zr_app a b
theorem zp_cons (a : Nat) (l : List Value) : Value.int .u8 0 :: zp a l = zp (a + 1) l := rfl
theorem zp_i (l : List Value) : Value.int .u8 0 :: Value.int .i64 0 :: l = zp 1 (Value.int .i64 0 :: l) := rfl
theorem zp_b (l : List Value) (b : Bool) : Value.int .u8 0 :: Value.bool b :: l = zp 1 (Value.bool b :: l) := rfl
theorem zp_l (a : Nat) (l m : List Value) : List.append (zp a l) m = zp a (List.append l m) := by
  show zr a ++ l ++ m = zr a ++ (l ++ m)
  exact List.append_assoc _ _ _
theorem ap_i (l m : List Value) : List.append (Value.int .i64 0 :: l) m = Value.int .i64 0 :: List.append l m := rfl
theorem ap_s (l m : List Value) : List.append (Value.slice none 0 0 :: l) m = Value.slice none 0 0 :: List.append l m := rfl
theorem zs_i (l : List Value) : Value.slice none 0 0 :: zr 0 = [Value.slice none 0 0] := rfl

set_option maxRecDepth 100000 in
theorem zero57 : Try.t51.zero = some (.agg (zp 32768 (Value.int .i64 0 :: zp 521 [.int .i64 0, .int .i64 0, .bool false, .slice none 0 0])).toArray) := by
  unfold Try.t51
  simp only [zr_one, zr_cons, zp_app, zp_zr, zp_zp, zp_cons, zp_i, zp_l, ap_i, Nat.reduceAdd]

set_option maxRecDepth 100000 in
theorem zero43 : Try.t43.zero = some (.agg (zr 512).toArray) := by
  unfold Try.t43
  simp only [zr_one, zr_cons, zr_app, Nat.reduceAdd]

set_option maxRecDepth 100000 in
theorem zero45 : Try.t45.zero = some (.agg (Value.slice none 0 0 :: zp 520 [.int .i64 0, .int .i64 0, .bool false, .bool false, .slice none 0 0]).toArray) := by
  unfold Try.t45
  simp only [zr_one, zr_cons, zp_app, zp_zr, zp_zp, zp_cons, zp_i, ap_s, Nat.reduceAdd]

theorem zr_get {n j : Nat} (h : j < n) : (zr n)[j]? = some z8 := by unfold zr; rw [List.getElem?_replicate, if_pos h]
theorem zr_len (n : Nat) : (zr n).length = n := List.length_replicate
theorem zp_get {n j : Nat} {l : List Value} : (zp n l)[j]? = if j < n then some z8 else l[j - n]? := by
  unfold zp
  by_cases h : j < n
  · rw [if_pos h, List.getElem?_append_left (by rw [zr_len]; exact h), zr_get h]
  · rw [if_neg h, List.getElem?_append_right (by rw [zr_len]; omega), zr_len]
theorem zp_len (n : Nat) (l : List Value) : (zp n l).length = n + l.length := by
  unfold zp
  rw [List.length_append, zr_len]

/-- The cells of a new disk. -/
def zI : Array Value := (zp 32768 (Value.int .i64 0 :: zp 521 [.int .i64 0, .int .i64 0, .bool false, .slice none 0 0])).toArray
theorem zI_size : zI.size = 33294 := by
  unfold zI
  rw [List.size_toArray, zp_len, List.length_cons, zp_len]
  rfl

theorem zI_get {k : Nat} (hk : k < 33294) : zI[k]? = some (cC (fun _ => 0) 0 (fun _ => 0) (fun _ => 0) 0 0 false (.slice none 0 0) k) := by
  unfold zI
  rw [List.getElem?_toArray, zp_get]
  by_cases a : k < 32768
  · rw [if_pos a, cC_D a]
    rfl
  · rw [if_neg a]
    by_cases b : k = 32768
    · subst b
      rfl
    · obtain ⟨j, rfl⟩ : ∃ j, k = 32769 + j := ⟨k - 32769, by omega⟩
      rw [show 32769 + j - 32768 = j + 1 by omega, List.getElem?_cons_succ, zp_get]
      by_cases c : j < 9
      · rw [if_pos (by omega), cC_R c]
        rfl
      · by_cases e : j < 521
        · rw [if_pos e]
          obtain ⟨i, rfl⟩ : ∃ i, j = 9 + i := ⟨j - 9, by omega⟩
          rw [show 32769 + (9 + i) = 32778 + i by omega, cC_b (by omega)]
          rfl
        · rw [if_neg e]
          rcases (by omega : j = 521 ∨ j = 522 ∨ j = 523 ∨ j = 524) with rfl | rfl | rfl | rfl <;> rfl
end Go.Proofs.Ytddalplpmgmplaa
