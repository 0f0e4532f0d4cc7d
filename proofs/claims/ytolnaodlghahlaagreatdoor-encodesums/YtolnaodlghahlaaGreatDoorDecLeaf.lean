/- Contracts of decode's small functions. -/
import Derived.Test.YtolnaodlghahlaaGreatDoorDecBase
import Derived.MapKept
import Derived.Laws.CopyRow
namespace Go.Proofs.YtolnaodlghahlaaGreatDoor
open Go.ChangeShapes Go.WideShapes Go.ChangeAt Go.RowKit
set_option linter.unusedVariables false

def noB (_ : Nat) : Prop := False

theorem Kp.any {S : Nat → Prop} {w w' : World} (h : Kp noB w w') : Kp S w w' := h.mono fun _ _ f => f.elim
theorem St.no {X : Cx} {w w' : World} {σ : Sg} (h : St X w σ) (k : Kp noB w w') : St X w' σ := h.kp k

theorem and7 (n : Int) : bits .and .i64 n 7 = n % 8 := by
  have h7 : (BitVec.ofInt 64 7).toNat = 2 ^ 3 - 1 := by decide
  have key : (BitVec.ofInt 64 n &&& BitVec.ofInt 64 7).toNat = (n % ((2 ^ 64 : Nat) : Int)).toNat % 2 ^ 3 := by
    rw [BitVec.toNat_and, BitVec.toNat_ofInt, h7, Nat.and_two_pow_sub_one_eq_mod]
  show IntKind.i64.wrap ((BitVec.ofInt 64 n &&& BitVec.ofInt 64 7).toNat : Nat) = n % 8
  rw [key, IntKind.wrap_i64]
  omega

theorem and15 (n : Int) : bits .and .i64 n 15 = n % 16 := by
  have h7 : (BitVec.ofInt 64 15).toNat = 2 ^ 4 - 1 := by decide
  have key : (BitVec.ofInt 64 n &&& BitVec.ofInt 64 15).toNat = (n % ((2 ^ 64 : Nat) : Int)).toNat % 2 ^ 4 := by
    rw [BitVec.toNat_and, BitVec.toNat_ofInt, h7, Nat.and_two_pow_sub_one_eq_mod]
  show IntKind.i64.wrap ((BitVec.ofInt 64 n &&& BitVec.ofInt 64 15).toNat : Nat) = n % 16
  rw [key, IntKind.wrap_i64]
  omega

def regO (r s : Int) : Opd := { Opd.zero with kind := 1, reg := r, size := s }
def numO (n : Int) : Opd := { Opd.zero with kind := 3, imm := n }
def segO (r : Int) : Opd := { Opd.zero with kind := 4, reg := r }
def memO (g s : Int) : Opd := { Opd.zero with kind := 2, size := s, seg := if g = -1 then 3 else g, base := -1, index := -1, scale := 1 }

theorem register_ok (w : World) (r s : Int) :
    Calls Tryz.prog 246 #[.int .i64 r, .int .i64 s] w fun e w' => e = .returned (.agg (regO r s).vals) ∧ Kp noB w w' := by
  go_enter Tryz.func246, Tryz.ntmps246
  go_wp2
  exact bodyPost_ret (v := .agg (regO r s).vals) (by simp [results, Tryz.results246, go_sem, regO, Opd.zero, Opd.vals]) rfl ⟨rfl, Kp.alloc _ _ _⟩

theorem number_ok (w : World) (n : Int) :
    Calls Tryz.prog 251 #[.int .u32 n] w fun e w' => e = .returned (.agg (numO n).vals) ∧ Kp noB w w' := by
  go_enter Tryz.func251, Tryz.ntmps251
  go_wp2
  exact bodyPost_ret (v := .agg (numO n).vals) (by simp [results, Tryz.results251, go_sem, numO, Opd.zero, Opd.vals]) rfl ⟨rfl, Kp.alloc _ _ _⟩

theorem segment_ok (w : World) (r : Int) :
    Calls Tryz.prog 76 #[.int .i64 r] w fun e w' => e = .returned (.func (.func 252) #[] #[.pointer (some ⟨w.heap.size, 0, none⟩)]) ∧ w' = w.alloc (.cells #[.int .i64 r] 3) := by
  go_enter Tryz.func76, Tryz.ntmps76
  go_wp2
  go_ret
  exact ⟨rfl, rfl⟩

theorem constant_ok (w : World) (r : Int) :
    Calls Tryz.prog 153 #[.int .u32 r] w fun e w' => e = .returned (.func (.func 258) #[] #[.pointer (some ⟨w.heap.size, 0, none⟩)]) ∧ w' = w.alloc (.cells #[.int .u32 r] 24) := by
  go_enter Tryz.func153, Tryz.ntmps153
  go_wp2
  go_ret
  exact ⟨rfl, rfl⟩

theorem segment1_ok (w : World) (f : Value) (s r : Int) (q : Nat) (hq : w.cell? ⟨q, 0, none⟩ = some (.int .i64 r)) :
    Calls Tryz.prog 252 #[f, .int .i64 s, .pointer (some ⟨q, 0, none⟩)] w fun e w' => e = .returned (.agg (segO r).vals) ∧ Kp noB w w' := by
  have hqs := cell_lt hq
  go_enter Tryz.func252, Tryz.ntmps252
  go_wp2
  exact bodyPost_ret (v := .agg (segO r).vals) (by simp [results, Tryz.results252, go_sem, segO, Opd.zero, Opd.vals]) rfl ⟨rfl, Kp.alloc _ _ _⟩

theorem new_res {S : Nat → Prop} {w w1 : World} (k : Kp S (w.alloc (.cells Opd.zero.vals 26)) w1) (hS : ¬ S w.heap.size) : w.heap.size < w1.heap.size ∧ w1.heap[w.heap.size]? = some (.cells Opd.zero.vals 26 (0, 0)) := by
  have h := (MapKept.heap_alloc w (.cells Opd.zero.vals 26)).1
  have h1 := heap_kept h k hS
  exact ⟨heap_lt h1, h1⟩

theorem res_fz {w : World} {q : Nat} {o : Opd} (h : w.heap[q]? = some (.cells o.vals 26 (0, 0))) (j : Nat) : w.frozen? ⟨q, j, none⟩ = false := by simp [World.frozen?, h]
theorem vals_size (o : Opd) : o.vals.size = 9 := rfl

theorem put_res {w : World} {q : Nat} {o0 : Opd} (h : w.heap[q]? = some (.cells o0.vals 26 (0, 0))) (o : Opd) : (storeCells ⟨q, 0, none⟩ o.vals.toList).run Tryz.prog w = .ok () (w.setRow q o.vals) := by
  have e := run_storeCells_at Tryz.prog q 0 26 o.vals.toList 0 o0.vals w h (Nat.le_refl 9) (by simp [Opd.vals, Value.oneCell'])
  rw [e]
  congr 2

theorem got_res {w : World} {q : Nat} {o0 : Opd} (h : w.heap[q]? = some (.cells o0.vals 26 (0, 0))) (o : Opd) : (w.setRow q o.vals).heap[q]? = some (.cells o.vals 26 (0, 0)) := setRow_heap w q _ _ _ _ h

theorem res_cells {w : World} {q : Nat} {o : Opd} (h : w.heap[q]? = some (.cells o.vals 26 (0, 0))) : w.cell? ⟨q, 0, none⟩ = some (.int .i64 o.kind) ∧ w.cell? ⟨q, 1, none⟩ = some (.int .i64 o.reg) ∧ w.cell? ⟨q, 2, none⟩ = some (.int .i64 o.size) ∧ w.cell? ⟨q, 3, none⟩ = some (.int .i64 o.seg) ∧ w.cell? ⟨q, 4, none⟩ = some (.int .i64 o.base) ∧ w.cell? ⟨q, 5, none⟩ = some (.int .i64 o.index) ∧ w.cell? ⟨q, 6, none⟩ = some (.int .i64 o.scale) ∧ w.cell? ⟨q, 7, none⟩ = some (.int .u32 o.disp) ∧ w.cell? ⟨q, 8, none⟩ = some (.int .u32 o.imm) := by
  refine ⟨?_, ?_, ?_, ?_, ?_, ?_, ?_, ?_, ?_⟩ <;> simp [World.cell?, h, Opd.vals]

theorem Kp.setRow {S : Nat → Prop} (w : World) {g : Nat} (hp : S g) (cs : Array Value) : Kp S w (w.setRow g cs) :=
  ⟨rfl, rfl, rfl, by simp [World.setRow], fun k hk hs => setRow_other w g k cs (fun e => hs (e ▸ hp))⟩

/-- What happened since the result's own block was made. -/
theorem res_kp {S : Nat → Prop} {w w1 : World} {c : Array Value} (k : Kp S (w.alloc (.cells c 26)) w1) (cs : Array Value) : Kp S w (w1.setRow w.heap.size cs) := by
  refine ⟨k.os, k.tape, k.output, ?_, fun i hi hs => ?_⟩
  · have := k.size
    simp at this ⊢
    omega
  · rw [setRow_other _ _ _ _ (by omega), k.block i (by simp; omega) hs]
    exact Below.heap_alloc _ _ _ hi

theorem constant1_ok (w : World) (f : Value) (s r : Int) (q : Nat) (hq : w.cell? ⟨q, 0, none⟩ = some (.int .u32 r)) :
    Calls Tryz.prog 258 #[f, .int .i64 s, .pointer (some ⟨q, 0, none⟩)] w fun e w' => e = .returned (.agg (numO r).vals) ∧ Kp noB w w' := by
  have hqs := cell_lt hq
  go_enter Tryz.func258, Tryz.ntmps258
  go_wp2_with fail
  refine (number_ok _ _).mono ?_; rintro e w1 ⟨rfl, k1⟩
  obtain ⟨hq0, hb0⟩ := new_res k1 id
  have hst := put_res hb0 (numO r)
  have hsz := vals_size (numO r)
  have hb1 := got_res hb0 (numO r)
  obtain ⟨r0, r1, r2, r3, r4, r5, r6, r7, r8⟩ := res_cells hb1
  have hk := res_kp k1 (numO r).vals
  go_wp2
  exact bodyPost_ret (v := .agg (numO r).vals) (by simp [results, Tryz.results258, go_sem, r0, r1, r2, r3, r4, r5, r6, r7, r8]; rfl) rfl ⟨rfl, hk⟩

theorem n_ok (w : World) (X : Cx) (σ : Sg) (h : St X w σ) :
    Calls Tryz.prog 65 #[.pointer (some ⟨X.F, 0, none⟩)] w fun e w' => e = .returned (.int .i64 (σ.op / 8 % 8)) ∧ w' = w := by
  have c2 := h.f2
  have h0 := h.gd.op0
  have h1 := h.gd.op1
  go_enter Tryz.func65, Tryz.ntmps65
  go_wp2
  go_ret
  exact ⟨ret_int (and7 _), rfl⟩

theorem r_ok (w : World) (X : Cx) (σ : Sg) (h : St X w σ) :
    Calls Tryz.prog 253 #[.pointer (some ⟨X.F, 0, none⟩)] w fun e w' => e = .returned (.int .i64 (σ.op % 8)) ∧ w' = w := by
  have c2 := h.f2
  have h0 := h.gd.op0
  have h1 := h.gd.op1
  go_enter Tryz.func253, Tryz.ntmps253
  go_wp2
  go_ret
  exact ⟨ret_int (and7 _), rfl⟩

theorem c_ok (w : World) (X : Cx) (σ : Sg) (h : St X w σ) :
    Calls Tryz.prog 100 #[.pointer (some ⟨X.F, 0, none⟩)] w fun e w' => e = .returned (.int .i64 (σ.op % 16)) ∧ w' = w := by
  have c2 := h.f2
  have h0 := h.gd.op0
  have h1 := h.gd.op1
  go_enter Tryz.func100, Tryz.ntmps100
  go_wp2
  go_ret
  exact ⟨ret_int (and15 _), rfl⟩

theorem memory_ok (w : World) (X : Cx) (σ : Sg) (h : St X w σ) (s : Int) :
    Calls Tryz.prog 247 #[.pointer (some ⟨X.F, 0, none⟩), .int .i64 s] w fun e w' => e = .returned (.agg (memO σ.seg s).vals) ∧ Kp noB w w' := by
  have c4 := h.f4
  have hF := h.ltF
  by_cases hs : σ.seg = -1
  · have hm : memO σ.seg s = memO (-1) s := by rw [hs]
    rw [hm]
    go_enter Tryz.func247, Tryz.ntmps247
    go_wp2
    exact bodyPost_ret (v := .agg (memO (-1) s).vals) (by simp [results, Tryz.results247, go_sem, memO, Opd.zero, Opd.vals]) rfl ⟨rfl, Kp.alloc _ _ _⟩
  · go_enter Tryz.func247, Tryz.ntmps247
    go_wp2
    exact bodyPost_ret (v := .agg (memO σ.seg s).vals) (by simp [results, Tryz.results247, go_sem, memO, Opd.zero, Opd.vals, hs]) rfl ⟨rfl, Kp.alloc _ _ _⟩

def isPre (b : Int) : Bool := b == 0x26 || b == 0x2E || b == 0x36 || b == 0x3E || b == 0x64 || b == 0x65 || b == 0x66 || b == 0xF2 || b == 0xF3
def preS (b : Int) (σ : Sg) : Sg :=
  if b = 0x26 then { σ with seg := 0 } else if b = 0x2E then { σ with seg := 1 } else if b = 0x36 then { σ with seg := 2 } else if b = 0x3E then { σ with seg := 3 } else if b = 0x64 then { σ with seg := 4 } else if b = 0x65 then { σ with seg := 5 } else if b = 0x66 then { σ with v := 2 } else if b = 0xF2 then { σ with rep := 2 } else if b = 0xF3 then { σ with rep := 1 } else σ

theorem prefix_ok (w : World) (X : Cx) (σ : Sg) (h : St X w σ) (b : Int) :
    Calls Tryz.prog 36 #[.pointer (some ⟨X.F, 0, none⟩), .int .i64 b] w fun e w' => e = .returned (.bool (isPre b)) ∧ Done X w (preS b σ) w' := by
  have c3 := h.f3
  have c4 := h.f4
  have c5 := h.f5
  have z3 := h.ff 3
  have z4 := h.ff 4
  have z5 := h.ff 5
  have hv : ∀ g : Int, (g = 2 ∨ g = 4) → Done X w { σ with v := g } (w.setCell ⟨X.F, 3, none⟩ (.int .i64 g)) := fun g hg => ⟨h.setF 3 _ (fun _ => rfl) rfl rfl rfl ⟨h.gd.op0, h.gd.op1, hg, h.gd.fb⟩, Kp.setCell w (Or.inr rfl) _⟩
  have hs : ∀ g : Int, Done X w { σ with seg := g } (w.setCell ⟨X.F, 4, none⟩ (.int .i64 g)) := fun g => ⟨h.setF 4 _ (fun _ => rfl) rfl rfl rfl ⟨h.gd.op0, h.gd.op1, h.gd.vv, h.gd.fb⟩, Kp.setCell w (Or.inr rfl) _⟩
  have hr : ∀ g : Int, Done X w { σ with rep := g } (w.setCell ⟨X.F, 5, none⟩ (.int .i64 g)) := fun g => ⟨h.setF 5 _ (fun _ => rfl) rfl rfl rfl ⟨h.gd.op0, h.gd.op1, h.gd.vv, h.gd.fb⟩, Kp.setCell w (Or.inr rfl) _⟩
  have h0 : Done X w σ w := ⟨h, Kp.refl _ _⟩
  obtain ⟨T, hT⟩ : ∃ T, T = isPre b := ⟨_, rfl⟩
  obtain ⟨σ', hσ⟩ : ∃ σ', σ' = preS b σ := ⟨_, rfl⟩
  rw [← hT, ← hσ]
  have HT : Hid (T = isPre b) := hT
  have Hσ : Hid (σ' = preS b σ) := hσ
  have Hv : Hid _ := hv
  have Hs : Hid _ := hs
  have Hr : Hid _ := hr
  have H0 : Hid _ := h0
  clear hT hσ hv hs hr h0
  go_enter Tryz.func36, Tryz.ntmps36
  go_wp2
  all_goals go_ret
  all_goals
    rw [HT.out, Hσ.out]
    subst_vars
    first
      | exact ⟨rfl, Hs.out _⟩
      | exact ⟨rfl, Hv.out _ (Or.inl rfl)⟩
      | exact ⟨rfl, Hr.out _⟩
      | (simp only [beq_iff_eq] at *; subst_vars; first | exact ⟨rfl, Hs.out _⟩ | exact ⟨rfl, Hv.out _ (Or.inl rfl)⟩ | exact ⟨rfl, Hr.out _⟩)
      | (have e1 : isPre b = false := by simp_all [isPre]
         have e2 : preS b σ = σ := by simp_all [preS]
         rw [e1, e2]; exact ⟨rfl, H0.out⟩)

end Go.Proofs.YtolnaodlghahlaaGreatDoor
