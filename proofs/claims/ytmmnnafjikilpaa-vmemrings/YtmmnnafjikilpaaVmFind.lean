/- All pages of a value. -/
import Derived.Test.YtmmnnafjikilpaaVmPlace
import Derived.Test.YtmmnnafjikilpaaOrdP
namespace Go.Proofs.Ytmmnnafjikilpaa
open Go.ChangeShapes Go.WideShapes Go.ChangeAt Go.RowKit Go.Maps
set_option linter.unusedVariables false
set_option maxRecDepth 20000

def QE (q : Qy) : Ending := match q.f with | some f => .panicked (pan f) | none => .returned q.s.val

theorem vfind_flat (w : World) (V C : Nat) (c : Cp) (h : CpAt w C c) (l : Int) (n : Nat) (wr us wp : Bool) (M : Mem) (hp : c.pg = false) :
    Calls Try.prog 55 #[.pointer (some ⟨V, 0, none⟩), .pointer (some ⟨C, 0, none⟩), .int .u32 l, .int .i64 n, .agg #[.bool wr, .bool us, .bool wp]] w (fun e w' => e = .returned (.agg #[.int .u32 l, .int .u32 0, .int .i64 n, .int .i64 n]) ∧ Kp noB w w') := by
  have k0 := (Kp.alloc noB w (.cells #[.bool wr, .bool us, .bool wp] 117)).trans (Kp.alloc noB _ (.cells #[.int .u32 0, .int .u32 0, .int .i64 0, .int .i64 0] 86))
  have hz := (h.kp0 k0).z
  have ha := and_pw h.ok.z0 h.ok.z1 31 (by decide)
  have e31 : ((2 ^ 31 : Nat) : Int) = 2147483648 := by decide
  rw [e31] at ha
  have hb : (bits .and .u32 c.cr0 2147483648 == 0) = true := by rw [ha]; unfold Cp.pg at hp; rw [hp]; rfl
  clear ha
  go_enter Try.func55, Try.ntmps55
  go_wp2
  refine bodyPost_ret (v := .agg #[.int .u32 l, .int .u32 0, .int .i64 n, .int .i64 n]) (by simp [results, Try.results55, go_sem]) rfl ⟨rfl, ?_⟩
  exact (Kp.alloc noB w _).trans (Kp.alloc noB _ _)

theorem vPlace_ok (w : World) (V K B pl tn : Nat) (M : Mem) (h : VmAt w V K B pl tn M) (c l : Int) (wr us wp : Bool) (c0 : 0 ≤ c) (c1 : c < 4294967296) (l0 : 0 ≤ l) (l1 : l < 4294967296) (htn : tn < 18446744073709551614) (ho : fOk M c l wr us wp = true) :
    Calls Try.prog 69 #[.pointer (some ⟨V, 0, none⟩), .int .u32 c, .int .u32 l, .agg #[.bool wr, .bool us, .bool wp]] w (fun e w' => e = .returned (.int .u32 (plF M c l wr us wp)) ∧ VmP w V K B pl tn (fMem M c l wr us wp) 1 w') := by
  have := vPlace_any w V K B pl tn M h c l wr us wp c0 c1 l0 l1 htn
  unfold plE at this
  rw [if_pos ho] at this
  exact this
theorem vPlace_no (w : World) (V K B pl tn : Nat) (M : Mem) (h : VmAt w V K B pl tn M) (c l : Int) (wr us wp : Bool) (c0 : 0 ≤ c) (c1 : c < 4294967296) (l0 : 0 ≤ l) (l1 : l < 4294967296) (htn : tn < 18446744073709551614) (ho : fOk M c l wr us wp = false) :
    Calls Try.prog 69 #[.pointer (some ⟨V, 0, none⟩), .int .u32 c, .int .u32 l, .agg #[.bool wr, .bool us, .bool wp]] w (fun e w' => e = .panicked (pan ⟨14, fCode M c l wr us wp, l⟩) ∧ VmP w V K B pl tn M 1 w') := by
  have := vPlace_any w V K B pl tn M h c l wr us wp c0 c1 l0 l1 htn
  unfold plE at this
  rw [ho, fMem_no ho] at this
  exact this

def RowS (W : World) (X : Nat) (a b : Int) (h n : Nat) : Prop := W.heap[X]? = some (.cells #[.int .u32 a, .int .u32 b, .int .i64 h, .int .i64 n] 86 (0, 0))
theorem RowS.lt {W : World} {X : Nat} {a b : Int} {h n : Nat} (r : RowS W X a b h n) : X < W.heap.size := (Array.getElem?_eq_some_iff.1 r).1
theorem RowS.kp {S : Nat → Prop} {W W' : World} {X : Nat} {a b : Int} {h n : Nat} (r : RowS W X a b h n) (k : Kp S W W') (hS : ¬ S X) : RowS W' X a b h n := (k.block X r.lt hS).trans r
theorem RowS.c0 {W : World} {X : Nat} {a b : Int} {h n : Nat} (r : RowS W X a b h n) : W.cell? ⟨X, 0, none⟩ = some (.int .u32 a) := by rw [cell_at r]; rfl
theorem RowS.c1 {W : World} {X : Nat} {a b : Int} {h n : Nat} (r : RowS W X a b h n) : W.cell? ⟨X, 1, none⟩ = some (.int .u32 b) := by rw [cell_at r]; rfl
theorem RowS.c2 {W : World} {X : Nat} {a b : Int} {h n : Nat} (r : RowS W X a b h n) : W.cell? ⟨X, 2, none⟩ = some (.int .i64 h) := by rw [cell_at r]; rfl
theorem RowS.c3 {W : World} {X : Nat} {a b : Int} {h n : Nat} (r : RowS W X a b h n) : W.cell? ⟨X, 3, none⟩ = some (.int .i64 n) := by rw [cell_at r]; rfl
theorem RowS.fz {W : World} {X : Nat} {a b : Int} {h n : Nat} (r : RowS W X a b h n) (j : Nat) : W.frozen? ⟨X, j, none⟩ = false := frozen_at r
theorem RowS.s0 {W : World} {X : Nat} {a b : Int} {h n : Nat} (r : RowS W X a b h n) (v : Int) : RowS (W.setCell ⟨X, 0, none⟩ (.int .u32 v)) X v b h n := heap_setCell_at r _
theorem RowS.s1 {W : World} {X : Nat} {a b : Int} {h n : Nat} (r : RowS W X a b h n) (v : Int) : RowS (W.setCell ⟨X, 1, none⟩ (.int .u32 v)) X a v h n := heap_setCell_at r _

theorem RowS.four {W : World} {X : Nat} {a b : Int} {h n : Nat} (r : RowS W X a b h n) (a' b' : Int) (h' n' : Nat) : RowS ((((W.setCell ⟨X, 0, none⟩ (.int .u32 a')).setCell ⟨X, 1, none⟩ (.int .u32 b')).setCell ⟨X, 2, none⟩ (.int .i64 h')).setCell ⟨X, 3, none⟩ (.int .i64 n')) X a' b' h' n' :=
  heap_setCell_at (heap_setCell_at ((r.s0 a').s1 b') _) _
theorem kp_four (W : World) (X : Nat) (v0 v1 v2 v3 : Value) : Kp (fun j => j = X) W ((((W.setCell ⟨X, 0, none⟩ v0).setCell ⟨X, 1, none⟩ v1).setCell ⟨X, 2, none⟩ v2).setCell ⟨X, 3, none⟩ v3) :=
  (((Kp.setCell (S := fun j => j = X) W (p := ⟨X, 0, none⟩) rfl v0).trans (Kp.setCell (S := fun j => j = X) _ (p := ⟨X, 1, none⟩) rfl v1)).trans (Kp.setCell (S := fun j => j = X) _ (p := ⟨X, 2, none⟩) rfl v2)).trans (Kp.setCell (S := fun j => j = X) _ (p := ⟨X, 3, none⟩) rfl v3)

/-- The cells that find reads: the processor's Cr3, and how it is asked. -/
abbrev FdS (C X : Nat) (c : Cp) (wr us wp : Bool) (W : World) : Prop := W.cell? ⟨C, 66, none⟩ = some (.int .u32 c.cr3) ∧ W.cell? ⟨X, 0, none⟩ = some (.bool wr) ∧ W.cell? ⟨X, 1, none⟩ = some (.bool us) ∧ W.cell? ⟨X, 2, none⟩ = some (.bool wp)
theorem FdS.kp {C X : Nat} {c : Cp} {wr us wp : Bool} {S : Nat → Prop} {W W' : World} (h : FdS C X c wr us wp W) (k : Kp S W W') (h1 : ¬ S C) (h2 : ¬ S X) : FdS C X c wr us wp W' := ⟨cell_kp h.1 k h1, cell_kp h.2.1 k h2, cell_kp h.2.2.1 k h2, cell_kp h.2.2.2 k h2⟩

/-- The first page has a fault. -/
theorem vfind_pf (w : World) (V K B pl tn C : Nat) (M : Mem) (h : VmAt w V K B pl tn M) (c : Cp) (hc : CpAt w C c) (hC : ¬ modVm K B M.n C) (l : Int) (n : Nat) (wr us wp : Bool) (l0 : 0 ≤ l) (l1 : l < 4294967296) (n0 : 1 ≤ n) (n1 : n ≤ 4) (htn : tn < 18446744073709551613) (hp : c.pg = true) (ho : fOk M c.cr3 l wr us wp = false) :
    Calls Try.prog 55 #[.pointer (some ⟨V, 0, none⟩), .pointer (some ⟨C, 0, none⟩), .int .u32 l, .int .i64 n, .agg #[.bool wr, .bool us, .bool wp]] w (fun e w' => e = .panicked (pan ⟨14, fCode M c.cr3 l wr us wp, l⟩) ∧ VmP w V K B pl tn M 2 w') := by
  obtain ⟨X, hX⟩ : ∃ X, w.heap.size = X := ⟨_, rfl⟩
  obtain ⟨hh, hhe⟩ : ∃ hh, hh = ahd l n := ⟨_, rfl⟩
  have he : (if 4096 - l % 4096 < (n : Int) then 4096 - l % 4096 else (n : Int)) = (hh : Int) := by rw [hhe]; unfold ahd; split <;> omega
  obtain ⟨W0, hW0⟩ : ∃ W, W = (((w.alloc (.cells #[.bool wr, .bool us, .bool wp] 117)).alloc (.cells #[.int .u32 0, .int .u32 0, .int .i64 0, .int .i64 0] 86)).alloc (.cells #[.int .u32 0, .int .u32 0, .int .i64 hh, .int .i64 n] 86)) := ⟨_, rfl⟩
  have kA := Kp.alloc noB w (.cells #[.bool wr, .bool us, .bool wp] 117)
  have kB := Kp.alloc noB (w.alloc (.cells #[.bool wr, .bool us, .bool wp] 117)) (.cells #[.int .u32 0, .int .u32 0, .int .i64 0, .int .i64 0] 86)
  have kC := Kp.alloc noB ((w.alloc (.cells #[.bool wr, .bool us, .bool wp] 117)).alloc (.cells #[.int .u32 0, .int .u32 0, .int .i64 0, .int .i64 0] 86)) (.cells #[.int .u32 0, .int .u32 0, .int .i64 hh, .int .i64 n] 86)
  have hz := (hc.kp0 (kA.trans kB)).z
  have k0 : Kp noB w W0 := by rw [hW0]; exact (kA.trans kB).trans kC
  have rB : RowB W0 X wr us wp := by rw [hW0, ← hX]; exact RowB.kp (RowB.kp (MapKept.heap_alloc w _).1 kB (fun f => f)) kC (fun f => f)
  have rS : RowS W0 (X + 1 + 1) 0 0 hh n := by
    have := (MapKept.heap_alloc ((w.alloc (.cells #[.bool wr, .bool us, .bool wp] 117)).alloc (.cells #[.int .u32 0, .int .u32 0, .int .i64 0, .int .i64 0] 86)) (.cells #[.int .u32 0, .int .u32 0, .int .i64 hh, .int .i64 n] 86)).1
    simp only [World.size_alloc, hX] at this
    rw [hW0]
    exact this
  have ha := and_pw hc.ok.z0 hc.ok.z1 31 (by decide)
  have e31 : ((2 ^ 31 : Nat) : Int) = 2147483648 := by decide
  rw [e31] at ha
  have hb : (bits .and .u32 c.cr0 2147483648 == 0) = false := by rw [ha]; unfold Cp.pg at hp; rw [hp]; rfl
  clear ha e31 hhe kA kB kC
  have h0 := h.kp0 k0
  have p0 := hc.kp0 k0
  have q0 := hc.ok.t0; have q1 := hc.ok.t1
  have HLT : Hid (V < X ∧ C < X ∧ ∀ j, modVm K B M.n j → j < X) := ⟨by rw [← hX]; exact h.lt, by rw [← hX]; exact hc.lt, fun j hj => by rw [← hX]; exact h.in_lt hj⟩
  have HS0 : Hid (FdS C X c wr us wp W0.drew) := ⟨p0.t, rB.c0, rB.c1, rB.c2⟩
  go_enter Try.func55, Try.ntmps55
  go_upto_region 4 with fail
  rw [← hW0]
  clear hW0 hX he hz hb hp
  have h0D : VmAt W0.drew V K B pl tn M := h0.kp0 (Kp.refl noB W0).drew
  have HC : Hid _ := vPlace_no W0.drew V K B pl tn M h0D c.cr3 l wr us wp q0 q1 l0 l1 (by omega) ho
  obtain ⟨z1, z2, z3, z4⟩ := HS0.out
  refine OrdP.region_vals (τ := Unit) (fun ch w' => ch = pan ⟨14, fCode M c.cr3 l wr us wp, l⟩ ∧ VmP W0.drew V K B pl tn M 1 w') (fun _ => [.pointer (some ⟨V, 0, none⟩), .pointer (some ⟨C, 0, none⟩), .pointer (some ⟨C, 0, none⟩), .pointer (some ⟨C, 66, none⟩), .int .u32 c.cr3, .int .u32 l, .agg #[.bool wr, .bool us, .bool wp], undef, .pointer (some ⟨X + 1 + 1, 0, none⟩), undef]) (fun _ listed W' => W' = W0.drew ∧ listed.getD 7 false = false) () ?_ (by kernel_rfl) (by kernel_rfl) (by kernel_rfl) (by kernel_rfl) (fun _ => rfl) (fun t => by simp only [OrdG.puts, Act.put, List.setIfInBounds_toArray, List.set_cons_zero, List.set_cons_succ]; rfl) (fun _ => by kernel_rfl) ⟨rfl, rfl⟩ ?_ ?_
  · rintro ch a' w' hd ⟨rfl, ⟨tn', ht, v⟩, k⟩
    exact ⟨hd, rfl, ⟨tn', by omega, v⟩, (k0.mono (fun _ _ f => f.elim)).trans ⟨k.os, k.tape, k.output, k.size, k.block⟩⟩
  · refine ⟨?_, ?_, ?_, ?_, ?_, ?_, ?_, ?_, ?_, ?_, trivial⟩
    all_goals (intro t listed W' hz hSh hl hI hb K hK hK0; obtain ⟨rfl, h7⟩ := hI)
    case refine_8 =>
      go_simp
      refine Calls.mono HC.out ?_
      rintro e w4 ⟨rfl, r⟩
      exact ⟨rfl, r⟩
    case refine_10 => exact absurd (OrdG.on_of (i := 7) hb (by kernel_rfl)) (by rw [h7]; decide)
    all_goals (go_simp; exact hK0 _ ⟨rfl, OrdP.keep h7 (by decide)⟩)
  · rintro t listed w' hal ⟨_, h7⟩
    have := hal 7 (by decide)
    rw [h7] at this
    cases this

/-- The bytes lie in one page. -/
theorem vfind_one (w : World) (V K B pl tn C : Nat) (M : Mem) (h : VmAt w V K B pl tn M) (c : Cp) (hc : CpAt w C c) (hC : ¬ modVm K B M.n C) (l : Int) (n : Nat) (wr us wp : Bool) (l0 : 0 ≤ l) (l1 : l < 4294967296) (n0 : 1 ≤ n) (n1 : n ≤ 4) (htn : tn < 18446744073709551613) (hp : c.pg = true) (ho : fOk M c.cr3 l wr us wp = true) (hn : n ≤ ahd l n) :
    Calls Try.prog 55 #[.pointer (some ⟨V, 0, none⟩), .pointer (some ⟨C, 0, none⟩), .int .u32 l, .int .i64 n, .agg #[.bool wr, .bool us, .bool wp]] w (fun e w' => e = .returned (.agg #[.int .u32 (plF M c.cr3 l wr us wp), .int .u32 0, .int .i64 (ahd l n), .int .i64 n]) ∧ VmP w V K B pl tn (fMem M c.cr3 l wr us wp) 2 w') := by
  obtain ⟨X, hX⟩ : ∃ X, w.heap.size = X := ⟨_, rfl⟩
  obtain ⟨hh, hhe⟩ : ∃ hh, hh = ahd l n := ⟨_, rfl⟩
  have he : (if 4096 - l % 4096 < (n : Int) then 4096 - l % 4096 else (n : Int)) = (hh : Int) := by rw [hhe]; unfold ahd; split <;> omega
  obtain ⟨W0, hW0⟩ : ∃ W, W = (((w.alloc (.cells #[.bool wr, .bool us, .bool wp] 117)).alloc (.cells #[.int .u32 0, .int .u32 0, .int .i64 0, .int .i64 0] 86)).alloc (.cells #[.int .u32 0, .int .u32 0, .int .i64 hh, .int .i64 n] 86)) := ⟨_, rfl⟩
  have kA := Kp.alloc noB w (.cells #[.bool wr, .bool us, .bool wp] 117)
  have kB := Kp.alloc noB (w.alloc (.cells #[.bool wr, .bool us, .bool wp] 117)) (.cells #[.int .u32 0, .int .u32 0, .int .i64 0, .int .i64 0] 86)
  have kC := Kp.alloc noB ((w.alloc (.cells #[.bool wr, .bool us, .bool wp] 117)).alloc (.cells #[.int .u32 0, .int .u32 0, .int .i64 0, .int .i64 0] 86)) (.cells #[.int .u32 0, .int .u32 0, .int .i64 hh, .int .i64 n] 86)
  have hz := (hc.kp0 (kA.trans kB)).z
  have k0 : Kp noB w W0 := by rw [hW0]; exact (kA.trans kB).trans kC
  have rB : RowB W0 X wr us wp := by rw [hW0, ← hX]; exact RowB.kp (RowB.kp (MapKept.heap_alloc w _).1 kB (fun f => f)) kC (fun f => f)
  have rS : RowS W0 (X + 1 + 1) 0 0 hh n := by
    have := (MapKept.heap_alloc ((w.alloc (.cells #[.bool wr, .bool us, .bool wp] 117)).alloc (.cells #[.int .u32 0, .int .u32 0, .int .i64 0, .int .i64 0] 86)) (.cells #[.int .u32 0, .int .u32 0, .int .i64 hh, .int .i64 n] 86)).1
    simp only [World.size_alloc, hX] at this
    rw [hW0]
    exact this
  have rR : RowS W0 (X + 1) 0 0 0 0 := by
    have := (MapKept.heap_alloc (w.alloc (.cells #[.bool wr, .bool us, .bool wp] 117)) (.cells #[.int .u32 0, .int .u32 0, .int .i64 0, .int .i64 0] 86)).1
    simp only [World.size_alloc, hX] at this
    rw [hW0]
    exact RowS.kp (h := 0) (n := 0) this kC (fun f => f)
  have ha := and_pw hc.ok.z0 hc.ok.z1 31 (by decide)
  have e31 : ((2 ^ 31 : Nat) : Int) = 2147483648 := by decide
  rw [e31] at ha
  have hb : (bits .and .u32 c.cr0 2147483648 == 0) = false := by rw [ha]; unfold Cp.pg at hp; rw [hp]; rfl
  have HH : Hid (hh = ahd l n) := hhe
  clear ha e31 hhe kA kB kC
  have h0 := h.kp0 k0
  have p0 := hc.kp0 k0
  have q0 := hc.ok.t0; have q1 := hc.ok.t1
  have HXw : Hid (w.heap.size = X) := hX
  have HLT : Hid (V < X ∧ C < X ∧ ∀ j, modVm K B M.n j → j < X) := ⟨by rw [← hX]; exact h.lt, by rw [← hX]; exact hc.lt, fun j hj => by rw [← hX]; exact h.in_lt hj⟩
  have HS0 : Hid (FdS C X c wr us wp W0.drew) := ⟨p0.t, rB.c0, rB.c1, rB.c2⟩
  go_enter Try.func55, Try.ntmps55
  go_upto_region 4 with fail
  rw [← hW0]
  clear hW0 hX he hz hb hp
  have sm := fMem_same M c.cr3 l wr us wp
  have nX : ¬ modVm K B (fMem M c.cr3 l wr us wp).n X := fun f => by rw [sm.1] at f; have := HLT.out.2.2 _ f; omega
  have nC : ¬ modVm K B (fMem M c.cr3 l wr us wp).n C := by rw [sm.1]; exact hC
  have nS : ¬ modVm K B (fMem M c.cr3 l wr us wp).n (X + 1 + 1) := fun f => by rw [sm.1] at f; have := HLT.out.2.2 _ f; omega
  have h0D : VmAt W0.drew V K B pl tn M := h0.kp0 (Kp.refl noB W0).drew
  have HC : Hid _ := vPlace_ok W0.drew V K B pl tn M h0D c.cr3 l wr us wp q0 q1 l0 l1 (by omega) ho
  have HSK : Hid (∀ W W', FdS C X c wr us wp W → Kp (modVm K B (fMem M c.cr3 l wr us wp).n) W W' → FdS C X c wr us wp W') := fun W W' p k => p.kp k nC nX
  have HSF : Hid (∀ (W : World) (v : Value), FdS C X c wr us wp W → FdS C X c wr us wp (W.setCell ⟨X + 1 + 1, 0, none⟩ v)) := fun W v p => p.kp (Kp.setCell (S := fun j => j = X + 1 + 1) W (p := ⟨X + 1 + 1, 0, none⟩) rfl v) (by have := HLT.out.2.1; omega) (by omega)
  have HRS : Hid (∀ W', Kp (modVm K B (fMem M c.cr3 l wr us wp).n) W0.drew W' → RowS W' (X + 1 + 1) 0 0 hh n) := fun W' k => by
    have r : RowS W0.drew (X + 1 + 1) 0 0 hh n := rS
    exact r.kp k nS
  have HRR : Hid (∀ W', Kp (modVm K B (fMem M c.cr3 l wr us wp).n) W0.drew W' → RowS W' (X + 1) 0 0 0 0) := fun W' k => by
    have r : RowS W0.drew (X + 1) 0 0 0 0 := rR
    exact r.kp k (fun f => by rw [sm.1] at f; have := HLT.out.2.2 _ f; omega)
  clear rR
  obtain ⟨M1, hM1⟩ : ∃ M1, fMem M c.cr3 l wr us wp = M1 := ⟨_, rfl⟩
  obtain ⟨p1, hp1⟩ : ∃ p1, plF M c.cr3 l wr us wp = p1 := ⟨_, rfl⟩
  rw [hM1] at sm nX nC nS HC HSK HRS HRR
  rw [hp1] at HC
  have HM1 : Hid _ := hM1
  have HP1 : Hid _ := hp1
  clear hM1 hp1
  go_region_held3 (fun W => (W.cell? ⟨C, 66, none⟩ = some (.int .u32 c.cr3) ∧ W.cell? ⟨X, 0, none⟩ = some (.bool wr) ∧ W.cell? ⟨X, 1, none⟩ = some (.bool us) ∧ W.cell? ⟨X, 2, none⟩ = some (.bool wp)))
    (first | with_reducible exact HS0.out | with_reducible exact HSK.out _ _ HS0.out k4 | with_reducible exact HSF.out _ _ (HSK.out _ _ HS0.out k4))
    (first | (go_at_call 69; refine Calls.mono HC.out ?_; rintro e w4 ⟨rfl, hr4, k4⟩; have rz := HRS.out _ k4; obtain ⟨z0, y0⟩ := And.intro rz.c0 (rz.fz 0)))
  have hS5 := HSF.out _ (.int .u32 p1) (HSK.out _ _ HS0.out k4)
  have r5 := rz.s0 p1
  obtain ⟨tn4, ht4, v4⟩ := hr4
  have nV' : ∀ j, inVm V K B M1.n j → j ≠ X + 1 + 1 := fun j hj e => by
    subst e
    rcases hj with e | e
    · have := HLT.out.1; omega
    · exact nS e
  replace v4 := v4.kp (Kp.setCell (S := fun j => j = X + 1 + 1) w4 (p := ⟨X + 1 + 1, 0, none⟩) rfl (.int .u32 p1)) nV'
  have hXw : w.heap.size ≤ X + 1 + 1 := by have := HXw.out; omega
  have k5 : Kp (modVm K B M1.n) w (w4.setCell ⟨X + 1 + 1, 0, none⟩ (.int .u32 p1)) := Kp.own' ((k0.mono (fun _ _ f => f.elim)).trans ⟨k4.os, k4.tape, k4.output, k4.size, k4.block⟩) hXw _
  have rR5 : RowS (w4.setCell ⟨X + 1 + 1, 0, none⟩ (.int .u32 p1)) (X + 1) 0 0 0 0 := (RowS.kp (HRR.out _ k4) (Kp.setCell (S := fun j => j = X + 1 + 1) w4 (p := ⟨X + 1 + 1, 0, none⟩) rfl (.int .u32 p1)) (by omega))
  obtain ⟨W5, hgen⟩ : ∃ W, W = w4.setCell ⟨X + 1 + 1, 0, none⟩ (.int .u32 p1) := ⟨_, rfl⟩
  rw [← hgen] at hS5 r5 v4 k5 rR5 ⊢
  clear hgen k4 HSK HSF HRS HRR h0D HC h0 k0 rB rS HS0 rz z0 y0 p0 h hc
  have hlt : ¬ hh < n := by rw [HH.out]; omega
  have hlt' : decide (hh < n) = false := decide_eq_false hlt
  have c2 := r5.c2
  have c0 := r5.c0; have c1 := r5.c1; have c3 := r5.c3
  have d0 := rR5.c0; have d1 := rR5.c1; have d2 := rR5.c2; have d3 := rR5.c3
  have f0 := rR5.fz 0; have f1 := rR5.fz 1; have f2 := rR5.fz 2; have f3 := rR5.fz 3
  have rF := rR5.four p1 0 hh n
  have kF := kp_four W5 (X + 1) (.int .u32 p1) (.int .u32 0) (.int .i64 hh) (.int .i64 n)
  have vF := v4.kp kF (fun j hj e => by
    subst e
    rcases hj with e | e
    · have := HLT.out.1; omega
    · rw [sm.1] at e; have := HLT.out.2.2 _ e; omega)
  have k6 := k5.over kF (fun j hj e => absurd hj (by have := HXw.out; omega))
  clear hS5 r5 rR5 v4 k5 kF
  go_wp2
  refine bodyPost_ret (v := .agg #[.int .u32 p1, .int .u32 0, .int .i64 hh, .int .i64 n]) (by simp [results, Try.results55, go_sem, rF.c0, rF.c1, rF.c2, rF.c3]) rfl ⟨by rw [HP1.out, HH.out], ?_⟩
  rw [HM1.out]
  exact ⟨⟨tn4, by omega, vF⟩, k6⟩

/-- The second page has a fault. -/
theorem vfind_pf2 (w : World) (V K B pl tn C : Nat) (M : Mem) (h : VmAt w V K B pl tn M) (c : Cp) (hc : CpAt w C c) (hC : ¬ modVm K B M.n C) (l : Int) (n : Nat) (wr us wp : Bool) (l0 : 0 ≤ l) (l1 : l < 4294967296) (n0 : 1 ≤ n) (n1 : n ≤ 4) (htn : tn < 18446744073709551613) (hp : c.pg = true) (ho : fOk M c.cr3 l wr us wp = true) (hn : ahd l n < n) (ho2 : fOk (fMem M c.cr3 l wr us wp) c.cr3 (nxt l n) wr us wp = false) :
    Calls Try.prog 55 #[.pointer (some ⟨V, 0, none⟩), .pointer (some ⟨C, 0, none⟩), .int .u32 l, .int .i64 n, .agg #[.bool wr, .bool us, .bool wp]] w (fun e w' => e = .panicked (pan ⟨14, fCode (fMem M c.cr3 l wr us wp) c.cr3 (nxt l n) wr us wp, nxt l n⟩) ∧ VmP w V K B pl tn (fMem M c.cr3 l wr us wp) 2 w') := by
  obtain ⟨X, hX⟩ : ∃ X, w.heap.size = X := ⟨_, rfl⟩
  obtain ⟨hh, hhe⟩ : ∃ hh, hh = ahd l n := ⟨_, rfl⟩
  have he : (if 4096 - l % 4096 < (n : Int) then 4096 - l % 4096 else (n : Int)) = (hh : Int) := by rw [hhe]; unfold ahd; split <;> omega
  obtain ⟨W0, hW0⟩ : ∃ W, W = (((w.alloc (.cells #[.bool wr, .bool us, .bool wp] 117)).alloc (.cells #[.int .u32 0, .int .u32 0, .int .i64 0, .int .i64 0] 86)).alloc (.cells #[.int .u32 0, .int .u32 0, .int .i64 hh, .int .i64 n] 86)) := ⟨_, rfl⟩
  have kA := Kp.alloc noB w (.cells #[.bool wr, .bool us, .bool wp] 117)
  have kB := Kp.alloc noB (w.alloc (.cells #[.bool wr, .bool us, .bool wp] 117)) (.cells #[.int .u32 0, .int .u32 0, .int .i64 0, .int .i64 0] 86)
  have kC := Kp.alloc noB ((w.alloc (.cells #[.bool wr, .bool us, .bool wp] 117)).alloc (.cells #[.int .u32 0, .int .u32 0, .int .i64 0, .int .i64 0] 86)) (.cells #[.int .u32 0, .int .u32 0, .int .i64 hh, .int .i64 n] 86)
  have hz := (hc.kp0 (kA.trans kB)).z
  have k0 : Kp noB w W0 := by rw [hW0]; exact (kA.trans kB).trans kC
  have rB : RowB W0 X wr us wp := by rw [hW0, ← hX]; exact RowB.kp (RowB.kp (MapKept.heap_alloc w _).1 kB (fun f => f)) kC (fun f => f)
  have rS : RowS W0 (X + 1 + 1) 0 0 hh n := by
    have := (MapKept.heap_alloc ((w.alloc (.cells #[.bool wr, .bool us, .bool wp] 117)).alloc (.cells #[.int .u32 0, .int .u32 0, .int .i64 0, .int .i64 0] 86)) (.cells #[.int .u32 0, .int .u32 0, .int .i64 hh, .int .i64 n] 86)).1
    simp only [World.size_alloc, hX] at this
    rw [hW0]
    exact this
  have rR : RowS W0 (X + 1) 0 0 0 0 := by
    have := (MapKept.heap_alloc (w.alloc (.cells #[.bool wr, .bool us, .bool wp] 117)) (.cells #[.int .u32 0, .int .u32 0, .int .i64 0, .int .i64 0] 86)).1
    simp only [World.size_alloc, hX] at this
    rw [hW0]
    exact RowS.kp (h := 0) (n := 0) this kC (fun f => f)
  have ha := and_pw hc.ok.z0 hc.ok.z1 31 (by decide)
  have e31 : ((2 ^ 31 : Nat) : Int) = 2147483648 := by decide
  rw [e31] at ha
  have hb : (bits .and .u32 c.cr0 2147483648 == 0) = false := by rw [ha]; unfold Cp.pg at hp; rw [hp]; rfl
  have HH : Hid (hh = ahd l n) := hhe
  clear ha e31 hhe kA kB kC
  have h0 := h.kp0 k0
  have p0 := hc.kp0 k0
  have q0 := hc.ok.t0; have q1 := hc.ok.t1
  have HXw : Hid (w.heap.size = X) := hX
  have HLT : Hid (V < X ∧ C < X ∧ ∀ j, modVm K B M.n j → j < X) := ⟨by rw [← hX]; exact h.lt, by rw [← hX]; exact hc.lt, fun j hj => by rw [← hX]; exact h.in_lt hj⟩
  have HS0 : Hid (FdS C X c wr us wp W0.drew) := ⟨p0.t, rB.c0, rB.c1, rB.c2⟩
  go_enter Try.func55, Try.ntmps55
  go_upto_region 4 with fail
  rw [← hW0]
  clear hW0 hX he hz hb hp
  have sm := fMem_same M c.cr3 l wr us wp
  have nX : ¬ modVm K B (fMem M c.cr3 l wr us wp).n X := fun f => by rw [sm.1] at f; have := HLT.out.2.2 _ f; omega
  have nC : ¬ modVm K B (fMem M c.cr3 l wr us wp).n C := by rw [sm.1]; exact hC
  have nS : ¬ modVm K B (fMem M c.cr3 l wr us wp).n (X + 1 + 1) := fun f => by rw [sm.1] at f; have := HLT.out.2.2 _ f; omega
  have h0D : VmAt W0.drew V K B pl tn M := h0.kp0 (Kp.refl noB W0).drew
  have HC : Hid _ := vPlace_ok W0.drew V K B pl tn M h0D c.cr3 l wr us wp q0 q1 l0 l1 (by omega) ho
  have HSK : Hid (∀ W W', FdS C X c wr us wp W → Kp (modVm K B (fMem M c.cr3 l wr us wp).n) W W' → FdS C X c wr us wp W') := fun W W' p k => p.kp k nC nX
  have HSF : Hid (∀ (W : World) (v : Value), FdS C X c wr us wp W → FdS C X c wr us wp (W.setCell ⟨X + 1 + 1, 0, none⟩ v)) := fun W v p => p.kp (Kp.setCell (S := fun j => j = X + 1 + 1) W (p := ⟨X + 1 + 1, 0, none⟩) rfl v) (by have := HLT.out.2.1; omega) (by omega)
  have HRS : Hid (∀ W', Kp (modVm K B (fMem M c.cr3 l wr us wp).n) W0.drew W' → RowS W' (X + 1 + 1) 0 0 hh n) := fun W' k => by
    have r : RowS W0.drew (X + 1 + 1) 0 0 hh n := rS
    exact r.kp k nS
  have HRR : Hid (∀ W', Kp (modVm K B (fMem M c.cr3 l wr us wp).n) W0.drew W' → RowS W' (X + 1) 0 0 0 0) := fun W' k => by
    have r : RowS W0.drew (X + 1) 0 0 0 0 := rR
    exact r.kp k (fun f => by rw [sm.1] at f; have := HLT.out.2.2 _ f; omega)
  clear rR
  obtain ⟨M1, hM1⟩ : ∃ M1, fMem M c.cr3 l wr us wp = M1 := ⟨_, rfl⟩
  obtain ⟨p1, hp1⟩ : ∃ p1, plF M c.cr3 l wr us wp = p1 := ⟨_, rfl⟩
  rw [hM1] at sm nX nC nS HC HSK HRS HRR ho2
  have HO2 : Hid _ := ho2
  rw [hp1] at HC
  have HM1 : Hid _ := hM1
  have HP1 : Hid _ := hp1
  clear hM1 hp1 ho2
  go_region_held3 (fun W => (W.cell? ⟨C, 66, none⟩ = some (.int .u32 c.cr3) ∧ W.cell? ⟨X, 0, none⟩ = some (.bool wr) ∧ W.cell? ⟨X, 1, none⟩ = some (.bool us) ∧ W.cell? ⟨X, 2, none⟩ = some (.bool wp)))
    (first | with_reducible exact HS0.out | with_reducible exact HSK.out _ _ HS0.out k4 | with_reducible exact HSF.out _ _ (HSK.out _ _ HS0.out k4))
    (first | (go_at_call 69; refine Calls.mono HC.out ?_; rintro e w4 ⟨rfl, hr4, k4⟩; have rz := HRS.out _ k4; obtain ⟨z0, y0⟩ := And.intro rz.c0 (rz.fz 0)))
  have hS5 := HSF.out _ (.int .u32 p1) (HSK.out _ _ HS0.out k4)
  have r5 := rz.s0 p1
  obtain ⟨tn4, ht4, v4⟩ := hr4
  have nV' : ∀ j, inVm V K B M1.n j → j ≠ X + 1 + 1 := fun j hj e => by
    subst e
    rcases hj with e | e
    · have := HLT.out.1; omega
    · exact nS e
  replace v4 := v4.kp (Kp.setCell (S := fun j => j = X + 1 + 1) w4 (p := ⟨X + 1 + 1, 0, none⟩) rfl (.int .u32 p1)) nV'
  have hXw : w.heap.size ≤ X + 1 + 1 := by have := HXw.out; omega
  have k5 : Kp (modVm K B M1.n) w (w4.setCell ⟨X + 1 + 1, 0, none⟩ (.int .u32 p1)) := Kp.own' ((k0.mono (fun _ _ f => f.elim)).trans ⟨k4.os, k4.tape, k4.output, k4.size, k4.block⟩) hXw _
  have rR5 : RowS (w4.setCell ⟨X + 1 + 1, 0, none⟩ (.int .u32 p1)) (X + 1) 0 0 0 0 := (RowS.kp (HRR.out _ k4) (Kp.setCell (S := fun j => j = X + 1 + 1) w4 (p := ⟨X + 1 + 1, 0, none⟩) rfl (.int .u32 p1)) (by omega))
  obtain ⟨W5, hgen⟩ : ∃ W, W = w4.setCell ⟨X + 1 + 1, 0, none⟩ (.int .u32 p1) := ⟨_, rfl⟩
  rw [← hgen] at hS5 r5 v4 k5 rR5 ⊢
  clear hgen k4 HSK HSF HRS HRR h0D HC h0 k0 rB rS HS0 rz z0 y0 p0 h hc
  have hlt : hh < n := by rw [HH.out]; exact hn
  have hlt' : decide (hh < n) = true := decide_eq_true hlt
  have HN : Hid (nxt l n = (l + hh) % 4294967296) := by rw [HH.out]; rfl
  have ew : IntKind.u32.wrap (hh : Int) = hh := by have := IntKind.wrap_u32 (hh : Int); omega
  have c2 := r5.c2
  go_upto_region 6 with fail
  have h5D : VmAt W5.drew V K B pl tn4 M1 := v4.kp0 (Kp.refl noB W5).drew
  have HC2 : Hid (Calls Try.prog 69 #[.pointer (some ⟨V, 0, none⟩), .int .u32 c.cr3, .int .u32 ((l + hh) % 4294967296), .agg #[.bool wr, .bool us, .bool wp]] W5.drew (fun e w' => e = .panicked (pan ⟨14, fCode M1 c.cr3 (nxt l n) wr us wp, nxt l n⟩) ∧ VmP W5.drew V K B pl tn4 M1 1 w')) := by
    have := vPlace_no W5.drew V K B pl tn4 M1 h5D c.cr3 (nxt l n) wr us wp q0 q1 (by unfold nxt; omega) (by unfold nxt; omega) (by omega) HO2.out
    rw [HN.out] at this ⊢
    exact this
  obtain ⟨z1, z2, z3, z4⟩ := hS5
  have HCd : Hid _ := HM1
  refine OrdP.region_vals (τ := Unit) (fun ch w' => ch = pan ⟨14, fCode M1 c.cr3 (nxt l n) wr us wp, nxt l n⟩ ∧ VmP W5.drew V K B pl tn4 M1 1 w') (fun _ => [.pointer (some ⟨V, 0, none⟩), .pointer (some ⟨C, 0, none⟩), .pointer (some ⟨C, 0, none⟩), .pointer (some ⟨C, 66, none⟩), .int .u32 c.cr3, .int .u32 l, .pointer (some ⟨X + 1 + 1, 2, none⟩), .int .i64 hh, .int .u32 hh, .int .u32 ((l + hh) % 4294967296), .agg #[.bool wr, .bool us, .bool wp], undef, .pointer (some ⟨X + 1 + 1, 1, none⟩), undef]) (fun _ listed W' => W' = W5.drew ∧ listed.getD 11 false = false) () ?_ (by kernel_rfl) (by kernel_rfl) (by kernel_rfl) (by kernel_rfl) (fun _ => rfl) (fun t => by simp only [OrdG.puts, Act.put, List.setIfInBounds_toArray, List.set_cons_zero, List.set_cons_succ]; rfl) (fun _ => by kernel_rfl) ⟨rfl, rfl⟩ ?_ ?_
  · rintro ch a' w' hd ⟨rfl, ⟨tn', ht, v⟩, k⟩
    refine ⟨hd, by rw [HM1.out], ?_⟩
    rw [HM1.out]
    exact ⟨⟨tn', by omega, v⟩, k5.trans ⟨k.os, k.tape, k.output, k.size, k.block⟩⟩
  · refine ⟨?_, ?_, ?_, ?_, ?_, ?_, ?_, ?_, ?_, ?_, ?_, ?_, ?_, ?_, trivial⟩
    all_goals (intro t listed W' hz hSh hl hI hb K hK hK0; obtain ⟨rfl, h7⟩ := hI)
    case refine_12 =>
      go_simp
      refine Calls.mono HC2.out ?_
      rintro e w4 ⟨rfl, r⟩
      exact ⟨rfl, r⟩
    case refine_14 => exact absurd (OrdG.on_of (i := 11) hb (by kernel_rfl)) (by rw [h7]; decide)
    all_goals (go_simp; exact hK0 _ ⟨rfl, OrdP.keep h7 (by decide)⟩)
  · rintro t listed w' hal ⟨_, h7⟩
    have := hal 11 (by decide)
    rw [h7] at this
    cases this

/-- Both pages are found. -/
theorem vfind_two (w : World) (V K B pl tn C : Nat) (M : Mem) (h : VmAt w V K B pl tn M) (c : Cp) (hc : CpAt w C c) (hC : ¬ modVm K B M.n C) (l : Int) (n : Nat) (wr us wp : Bool) (l0 : 0 ≤ l) (l1 : l < 4294967296) (n0 : 1 ≤ n) (n1 : n ≤ 4) (htn : tn < 18446744073709551613) (hp : c.pg = true) (ho : fOk M c.cr3 l wr us wp = true) (hn : ahd l n < n) (ho2 : fOk (fMem M c.cr3 l wr us wp) c.cr3 (nxt l n) wr us wp = true) :
    Calls Try.prog 55 #[.pointer (some ⟨V, 0, none⟩), .pointer (some ⟨C, 0, none⟩), .int .u32 l, .int .i64 n, .agg #[.bool wr, .bool us, .bool wp]] w (fun e w' => e = .returned (.agg #[.int .u32 (plF M c.cr3 l wr us wp), .int .u32 (plF (fMem M c.cr3 l wr us wp) c.cr3 (nxt l n) wr us wp), .int .i64 (ahd l n), .int .i64 n]) ∧ VmP w V K B pl tn (fMem (fMem M c.cr3 l wr us wp) c.cr3 (nxt l n) wr us wp) 2 w') := by
  obtain ⟨X, hX⟩ : ∃ X, w.heap.size = X := ⟨_, rfl⟩
  obtain ⟨hh, hhe⟩ : ∃ hh, hh = ahd l n := ⟨_, rfl⟩
  have he : (if 4096 - l % 4096 < (n : Int) then 4096 - l % 4096 else (n : Int)) = (hh : Int) := by rw [hhe]; unfold ahd; split <;> omega
  obtain ⟨W0, hW0⟩ : ∃ W, W = (((w.alloc (.cells #[.bool wr, .bool us, .bool wp] 117)).alloc (.cells #[.int .u32 0, .int .u32 0, .int .i64 0, .int .i64 0] 86)).alloc (.cells #[.int .u32 0, .int .u32 0, .int .i64 hh, .int .i64 n] 86)) := ⟨_, rfl⟩
  have kA := Kp.alloc noB w (.cells #[.bool wr, .bool us, .bool wp] 117)
  have kB := Kp.alloc noB (w.alloc (.cells #[.bool wr, .bool us, .bool wp] 117)) (.cells #[.int .u32 0, .int .u32 0, .int .i64 0, .int .i64 0] 86)
  have kC := Kp.alloc noB ((w.alloc (.cells #[.bool wr, .bool us, .bool wp] 117)).alloc (.cells #[.int .u32 0, .int .u32 0, .int .i64 0, .int .i64 0] 86)) (.cells #[.int .u32 0, .int .u32 0, .int .i64 hh, .int .i64 n] 86)
  have hz := (hc.kp0 (kA.trans kB)).z
  have k0 : Kp noB w W0 := by rw [hW0]; exact (kA.trans kB).trans kC
  have rB : RowB W0 X wr us wp := by rw [hW0, ← hX]; exact RowB.kp (RowB.kp (MapKept.heap_alloc w _).1 kB (fun f => f)) kC (fun f => f)
  have rS : RowS W0 (X + 1 + 1) 0 0 hh n := by
    have := (MapKept.heap_alloc ((w.alloc (.cells #[.bool wr, .bool us, .bool wp] 117)).alloc (.cells #[.int .u32 0, .int .u32 0, .int .i64 0, .int .i64 0] 86)) (.cells #[.int .u32 0, .int .u32 0, .int .i64 hh, .int .i64 n] 86)).1
    simp only [World.size_alloc, hX] at this
    rw [hW0]
    exact this
  have rR : RowS W0 (X + 1) 0 0 0 0 := by
    have := (MapKept.heap_alloc (w.alloc (.cells #[.bool wr, .bool us, .bool wp] 117)) (.cells #[.int .u32 0, .int .u32 0, .int .i64 0, .int .i64 0] 86)).1
    simp only [World.size_alloc, hX] at this
    rw [hW0]
    exact RowS.kp (h := 0) (n := 0) this kC (fun f => f)
  have ha := and_pw hc.ok.z0 hc.ok.z1 31 (by decide)
  have e31 : ((2 ^ 31 : Nat) : Int) = 2147483648 := by decide
  rw [e31] at ha
  have hb : (bits .and .u32 c.cr0 2147483648 == 0) = false := by rw [ha]; unfold Cp.pg at hp; rw [hp]; rfl
  have HH : Hid (hh = ahd l n) := hhe
  clear ha e31 hhe kA kB kC
  have h0 := h.kp0 k0
  have p0 := hc.kp0 k0
  have q0 := hc.ok.t0; have q1 := hc.ok.t1
  have HXw : Hid (w.heap.size = X) := hX
  have HLT : Hid (V < X ∧ C < X ∧ ∀ j, modVm K B M.n j → j < X) := ⟨by rw [← hX]; exact h.lt, by rw [← hX]; exact hc.lt, fun j hj => by rw [← hX]; exact h.in_lt hj⟩
  have HS0 : Hid (FdS C X c wr us wp W0.drew) := ⟨p0.t, rB.c0, rB.c1, rB.c2⟩
  go_enter Try.func55, Try.ntmps55
  go_upto_region 4 with fail
  rw [← hW0]
  clear hW0 hX he hz hb hp
  have sm := fMem_same M c.cr3 l wr us wp
  have nX : ¬ modVm K B (fMem M c.cr3 l wr us wp).n X := fun f => by rw [sm.1] at f; have := HLT.out.2.2 _ f; omega
  have nC : ¬ modVm K B (fMem M c.cr3 l wr us wp).n C := by rw [sm.1]; exact hC
  have nS : ¬ modVm K B (fMem M c.cr3 l wr us wp).n (X + 1 + 1) := fun f => by rw [sm.1] at f; have := HLT.out.2.2 _ f; omega
  have h0D : VmAt W0.drew V K B pl tn M := h0.kp0 (Kp.refl noB W0).drew
  have HC : Hid _ := vPlace_ok W0.drew V K B pl tn M h0D c.cr3 l wr us wp q0 q1 l0 l1 (by omega) ho
  have HSK : Hid (∀ W W', FdS C X c wr us wp W → Kp (modVm K B (fMem M c.cr3 l wr us wp).n) W W' → FdS C X c wr us wp W') := fun W W' p k => p.kp k nC nX
  have HSF : Hid (∀ (W : World) (v : Value), FdS C X c wr us wp W → FdS C X c wr us wp (W.setCell ⟨X + 1 + 1, 0, none⟩ v)) := fun W v p => p.kp (Kp.setCell (S := fun j => j = X + 1 + 1) W (p := ⟨X + 1 + 1, 0, none⟩) rfl v) (by have := HLT.out.2.1; omega) (by omega)
  have HRS : Hid (∀ W', Kp (modVm K B (fMem M c.cr3 l wr us wp).n) W0.drew W' → RowS W' (X + 1 + 1) 0 0 hh n) := fun W' k => by
    have r : RowS W0.drew (X + 1 + 1) 0 0 hh n := rS
    exact r.kp k nS
  have HRR : Hid (∀ W', Kp (modVm K B (fMem M c.cr3 l wr us wp).n) W0.drew W' → RowS W' (X + 1) 0 0 0 0) := fun W' k => by
    have r : RowS W0.drew (X + 1) 0 0 0 0 := rR
    exact r.kp k (fun f => by rw [sm.1] at f; have := HLT.out.2.2 _ f; omega)
  clear rR
  obtain ⟨M1, hM1⟩ : ∃ M1, fMem M c.cr3 l wr us wp = M1 := ⟨_, rfl⟩
  obtain ⟨p1, hp1⟩ : ∃ p1, plF M c.cr3 l wr us wp = p1 := ⟨_, rfl⟩
  rw [hM1] at sm nX nC nS HC HSK HRS HRR ho2
  have HO2 : Hid _ := ho2
  rw [hp1] at HC
  have HM1 : Hid _ := hM1
  have HP1 : Hid _ := hp1
  clear hM1 hp1 ho2
  go_region_held3 (fun W => (W.cell? ⟨C, 66, none⟩ = some (.int .u32 c.cr3) ∧ W.cell? ⟨X, 0, none⟩ = some (.bool wr) ∧ W.cell? ⟨X, 1, none⟩ = some (.bool us) ∧ W.cell? ⟨X, 2, none⟩ = some (.bool wp)))
    (first | with_reducible exact HS0.out | with_reducible exact HSK.out _ _ HS0.out k4 | with_reducible exact HSF.out _ _ (HSK.out _ _ HS0.out k4))
    (first | (go_at_call 69; refine Calls.mono HC.out ?_; rintro e w4 ⟨rfl, hr4, k4⟩; have rz := HRS.out _ k4; obtain ⟨z0, y0⟩ := And.intro rz.c0 (rz.fz 0)))
  have hS5 := HSF.out _ (.int .u32 p1) (HSK.out _ _ HS0.out k4)
  have r5 := rz.s0 p1
  obtain ⟨tn4, ht4, v4⟩ := hr4
  have nV' : ∀ j, inVm V K B M1.n j → j ≠ X + 1 + 1 := fun j hj e => by
    subst e
    rcases hj with e | e
    · have := HLT.out.1; omega
    · exact nS e
  replace v4 := v4.kp (Kp.setCell (S := fun j => j = X + 1 + 1) w4 (p := ⟨X + 1 + 1, 0, none⟩) rfl (.int .u32 p1)) nV'
  have hXw : w.heap.size ≤ X + 1 + 1 := by have := HXw.out; omega
  have k5 : Kp (modVm K B M1.n) w (w4.setCell ⟨X + 1 + 1, 0, none⟩ (.int .u32 p1)) := Kp.own' ((k0.mono (fun _ _ f => f.elim)).trans ⟨k4.os, k4.tape, k4.output, k4.size, k4.block⟩) hXw _
  have rR5 : RowS (w4.setCell ⟨X + 1 + 1, 0, none⟩ (.int .u32 p1)) (X + 1) 0 0 0 0 := (RowS.kp (HRR.out _ k4) (Kp.setCell (S := fun j => j = X + 1 + 1) w4 (p := ⟨X + 1 + 1, 0, none⟩) rfl (.int .u32 p1)) (by omega))
  obtain ⟨W5, hgen⟩ : ∃ W, W = w4.setCell ⟨X + 1 + 1, 0, none⟩ (.int .u32 p1) := ⟨_, rfl⟩
  rw [← hgen] at hS5 r5 v4 k5 rR5 ⊢
  clear hgen k4 HSK HSF HRS HRR h0D HC h0 k0 rB rS HS0 rz z0 y0 p0 h hc
  have hlt : hh < n := by rw [HH.out]; exact hn
  have hlt' : decide (hh < n) = true := decide_eq_true hlt
  have HN : Hid (nxt l n = (l + hh) % 4294967296) := by rw [HH.out]; rfl
  have ew : IntKind.u32.wrap (hh : Int) = hh := by have := IntKind.wrap_u32 (hh : Int); omega
  have c2 := r5.c2
  go_upto_region 6 with fail
  have h5D : VmAt W5.drew V K B pl tn4 M1 := v4.kp0 (Kp.refl noB W5).drew
  have sm2 := fMem_same M1 c.cr3 (nxt l n) wr us wp
  have HC2 : Hid (Calls Try.prog 69 #[.pointer (some ⟨V, 0, none⟩), .int .u32 c.cr3, .int .u32 ((l + hh) % 4294967296), .agg #[.bool wr, .bool us, .bool wp]] W5.drew (fun e w' => e = .returned (.int .u32 (plF M1 c.cr3 (nxt l n) wr us wp)) ∧ VmP W5.drew V K B pl tn4 (fMem M1 c.cr3 (nxt l n) wr us wp) 1 w')) := by
    have := vPlace_ok W5.drew V K B pl tn4 M1 h5D c.cr3 (nxt l n) wr us wp q0 q1 (by unfold nxt; omega) (by unfold nxt; omega) (by omega) HO2.out
    rw [HN.out] at this ⊢
    exact this
  obtain ⟨M2, hM2⟩ : ∃ M2, fMem M1 c.cr3 (nxt l n) wr us wp = M2 := ⟨_, rfl⟩
  obtain ⟨p2, hp2⟩ : ∃ p2, plF M1 c.cr3 (nxt l n) wr us wp = p2 := ⟨_, rfl⟩
  rw [hM2] at sm2 HC2
  rw [hp2] at HC2
  have HM2 : Hid _ := hM2
  have HP2 : Hid _ := hp2
  clear hM2 hp2
  have HT0 : Hid (FdS C X c wr us wp W5.drew ∧ W5.drew.cell? ⟨X + 1 + 1, 2, none⟩ = some (.int .i64 hh)) := ⟨hS5, c2⟩
  have HTK : Hid (∀ W W', (FdS C X c wr us wp W ∧ W.cell? ⟨X + 1 + 1, 2, none⟩ = some (.int .i64 hh)) → Kp (modVm K B M2.n) W W' → (FdS C X c wr us wp W' ∧ W'.cell? ⟨X + 1 + 1, 2, none⟩ = some (.int .i64 hh))) := fun W W' p k => by rw [sm2.1] at k; exact ⟨p.1.kp k nC nX, cell_kp p.2 k nS⟩
  have HTF : Hid (∀ (W : World) (v : Value), (FdS C X c wr us wp W ∧ W.cell? ⟨X + 1 + 1, 2, none⟩ = some (.int .i64 hh)) → (FdS C X c wr us wp (W.setCell ⟨X + 1 + 1, 1, none⟩ v) ∧ (W.setCell ⟨X + 1 + 1, 1, none⟩ v).cell? ⟨X + 1 + 1, 2, none⟩ = some (.int .i64 hh))) := fun W v p => ⟨p.1.kp (Kp.setCell (S := fun j => j = X + 1 + 1) W (p := ⟨X + 1 + 1, 1, none⟩) rfl v) (by have := HLT.out.2.1; omega) (by omega), by rw [World.cell?_setCell_other _ _ _ _ (by simp)]; exact p.2⟩
  have HRS : Hid (∀ W', Kp (modVm K B M2.n) W5.drew W' → RowS W' (X + 1 + 1) p1 0 hh n) := fun W' k => by
    have r : RowS W5.drew (X + 1 + 1) p1 0 hh n := r5
    rw [sm2.1] at k
    exact r.kp k nS
  go_region_held3 (fun W => ((W.cell? ⟨C, 66, none⟩ = some (.int .u32 c.cr3) ∧ W.cell? ⟨X, 0, none⟩ = some (.bool wr) ∧ W.cell? ⟨X, 1, none⟩ = some (.bool us) ∧ W.cell? ⟨X, 2, none⟩ = some (.bool wp)) ∧ W.cell? ⟨X + 1 + 1, 2, none⟩ = some (.int .i64 hh)))
    (first | with_reducible exact HT0.out | with_reducible exact HTK.out _ _ HT0.out k4 | with_reducible exact HTF.out _ _ (HTK.out _ _ HT0.out k4))
    (first | (go_at_call 69; refine Calls.mono HC2.out ?_; rintro e w6 ⟨rfl, hr4, k4⟩; have rz := HRS.out _ k4; obtain ⟨x1, y1⟩ := And.intro rz.c1 (rz.fz 1)))
  have r7 := rz.s1 p2
  obtain ⟨tn6, ht6, v6⟩ := hr4
  have k4' : Kp (modVm K B M1.n) W5 w6 := by rw [sm2.1] at k4; exact ⟨k4.os, k4.tape, k4.output, k4.size, k4.block⟩
  replace v6 := v6.kp (Kp.setCell (S := fun j => j = X + 1 + 1) w6 (p := ⟨X + 1 + 1, 1, none⟩) rfl (.int .u32 p2)) (by rw [sm2.1]; exact nV')
  have k7 : Kp (modVm K B M1.n) w (w6.setCell ⟨X + 1 + 1, 1, none⟩ (.int .u32 p2)) := Kp.own' (k5.trans k4') hXw _
  have rR7 : RowS (w6.setCell ⟨X + 1 + 1, 1, none⟩ (.int .u32 p2)) (X + 1) 0 0 0 0 := RowS.kp (rR5.kp k4' (fun f => by rw [sm.1] at f; have := HLT.out.2.2 _ f; omega)) (Kp.setCell (S := fun j => j = X + 1 + 1) w6 (p := ⟨X + 1 + 1, 1, none⟩) rfl (.int .u32 p2)) (by omega)
  obtain ⟨W7, hgen⟩ : ∃ W, W = w6.setCell ⟨X + 1 + 1, 1, none⟩ (.int .u32 p2) := ⟨_, rfl⟩
  rw [← hgen] at r7 v6 k7 rR7 ⊢
  clear hgen k4 k4' HTK HTF HT0 HRS HC2 h5D k5 rR5 r5 rz x1 y1 v4 c2 hS5
  have c0 := r7.c0; have c1 := r7.c1; have c2 := r7.c2; have c3 := r7.c3
  have d0 := rR7.c0; have d1 := rR7.c1; have d2 := rR7.c2; have d3 := rR7.c3
  have f0 := rR7.fz 0; have f1 := rR7.fz 1; have f2 := rR7.fz 2; have f3 := rR7.fz 3
  have rF := rR7.four p1 p2 hh n
  have kF := kp_four W7 (X + 1) (.int .u32 p1) (.int .u32 p2) (.int .i64 hh) (.int .i64 n)
  have vF := v6.kp kF (fun j hj e => by
    subst e
    rcases hj with e | e
    · have := HLT.out.1; omega
    · rw [sm2.1, sm.1] at e; have := HLT.out.2.2 _ e; omega)
  have k8 := k7.over kF (fun j hj e => absurd hj (by have := HXw.out; omega))
  clear r7 rR7 v6 k7 kF
  go_wp2
  refine bodyPost_ret (v := .agg #[.int .u32 p1, .int .u32 p2, .int .i64 hh, .int .i64 n]) (by simp [results, Try.results55, go_sem, rF.c0, rF.c1, rF.c2, rF.c3]) rfl ⟨by rw [HM1.out, HP1.out, HH.out, HP2.out], ?_⟩
  rw [HM1.out, HM2.out]
  exact ⟨⟨tn6, by omega, vF⟩, by rw [sm2.1]; exact k8⟩

theorem VmP.more {w w' : World} {V K B pl tn : Nat} {M : Mem} {n m : Nat} (h : VmP w V K B pl tn M n w') (k : n ≤ m) : VmP w V K B pl tn M m w' := by
  obtain ⟨⟨tn', ht, v⟩, q⟩ := h
  exact ⟨⟨tn', by omega, v⟩, q⟩
theorem VmAt.stay {w w' : World} {V K B pl tn : Nat} {M : Mem} (h : VmAt w V K B pl tn M) (k : Kp noB w w') (n : Nat) : VmP w V K B pl tn M n w' := ⟨⟨tn, by omega, h.kp0 k⟩, k.mono (fun _ _ f => f.elim)⟩

theorem vfind_any (w : World) (V K B pl tn C : Nat) (M : Mem) (h : VmAt w V K B pl tn M) (c : Cp) (hc : CpAt w C c) (hC : ¬ modVm K B M.n C) (l : Int) (n : Nat) (wr us wp : Bool) (l0 : 0 ≤ l) (l1 : l < 4294967296) (n0 : 1 ≤ n) (n1 : n ≤ 4) (htn : tn < 18446744073709551613) :
    Calls Try.prog 55 #[.pointer (some ⟨V, 0, none⟩), .pointer (some ⟨C, 0, none⟩), .int .u32 l, .int .i64 n, .agg #[.bool wr, .bool us, .bool wp]] w (fun e w' => e = QE (findQ M c.pg c.cr3 l n wr us wp) ∧ VmP w V K B pl tn (findQ M c.pg c.cr3 l n wr us wp).m 2 w') := by
  unfold findQ
  cases hp : c.pg with
  | false =>
    rw [if_pos rfl]
    refine (vfind_flat w V C c hc l n wr us wp M hp).mono ?_
    rintro e w' ⟨rfl, k⟩
    exact ⟨rfl, h.stay k 2⟩
  | true =>
    rw [if_neg (by decide)]
    cases ho : fOk M c.cr3 l wr us wp with
    | false => rw [if_pos rfl]; exact vfind_pf w V K B pl tn C M h c hc hC l n wr us wp l0 l1 n0 n1 htn hp ho
    | true =>
      rw [if_neg (by decide)]
      by_cases hn : n ≤ ahd l n
      · rw [if_pos hn]
        exact vfind_one w V K B pl tn C M h c hc hC l n wr us wp l0 l1 n0 n1 htn hp ho hn
      · rw [if_neg hn]
        cases ho2 : fOk (fMem M c.cr3 l wr us wp) c.cr3 (nxt l n) wr us wp with
        | false => rw [if_pos rfl]; exact vfind_pf2 w V K B pl tn C M h c hc hC l n wr us wp l0 l1 n0 n1 htn hp ho (by omega) ho2
        | true => rw [if_neg (by decide)]; exact vfind_two w V K B pl tn C M h c hc hC l n wr us wp l0 l1 n0 n1 htn hp ho (by omega) ho2
end Go.Proofs.Ytmmnnafjikilpaa
