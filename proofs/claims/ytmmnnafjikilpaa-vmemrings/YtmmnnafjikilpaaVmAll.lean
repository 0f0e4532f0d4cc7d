/- vmem's calls, whatever they are given: what is answered, and memory behind it. -/
import Derived.Test.YtmmnnafjikilpaaVmOps
import Derived.Test.YtmmnnafjikilpaaVmCode
namespace Go.Proofs.Ytmmnnafjikilpaa
open Go.ChangeShapes Go.WideShapes Go.ChangeAt Go.RowKit Go.Maps
set_option linter.unusedVariables false
set_option maxRecDepth 20000

theorem RdB.find {M : Mem} (h : RdB M) (c l : Int) (wr us wp : Bool) : RdB (fMem M c l wr us wp) := by
  unfold fMem
  split
  · exact (h.mark _ _).mark _ _
  · exact h

theorem plF_bd {M : Mem} (h : RdB M) (c l : Int) (wr us wp : Bool) (l0 : 0 ≤ l) : 0 ≤ plF M c l wr us wp ∧ plF M c l wr us wp < 4294967296 := by
  unfold plF fFr
  have := fTwo_bd h c l
  omega

theorem findQ_s {M : Mem} (h : RdB M) (pg : Bool) (c l : Int) (n : Nat) (wr us wp : Bool) (l0 : 0 ≤ l) (l1 : l < 4294967296) (hn : n = 1 ∨ n = 2 ∨ n = 4) (hf : (findQ M pg c l n wr us wp).f = none) : (findQ M pg c l n wr us wp).s.Ok ∧ (findQ M pg c l n wr us wp).s.n = n := by
  have b1 := plF_bd h c l wr us wp l0
  have b2 := plF_bd (h.find c l wr us wp) c (nxt l n) wr us wp (by unfold nxt; omega)
  have ha : 1 ≤ ahd l n ∧ ahd l n ≤ n := by unfold ahd; omega
  unfold findQ at hf ⊢
  split at hf
  · rename_i e; rw [if_pos e]
    exact ⟨⟨l0, l1, by show (0 : Int) ≤ 0; omega, by show (0 : Int) < 4294967296; omega, by show 1 ≤ n; omega, Nat.le_refl _, hn⟩, rfl⟩
  · rename_i e; rw [if_neg e]
    split at hf
    · simp at hf
    · rename_i e2; rw [if_neg e2]
      split at hf
      · rename_i e3; rw [if_pos e3]
        exact ⟨⟨b1.1, b1.2, by show (0 : Int) ≤ 0; omega, by show (0 : Int) < 4294967296; omega, ha.1, ha.2, hn⟩, rfl⟩
      · rename_i e3; rw [if_neg e3]
        split at hf
        · simp at hf
        · rename_i e4; rw [if_neg e4]
          exact ⟨⟨b1.1, b1.2, b2.1, b2.2, ha.1, ha.2, hn⟩, rfl⟩

theorem linB_bd (b off : Int) : 0 ≤ linB b off ∧ linB b off < 4294967296 := by unfold linB; omega
theorem okS_n {z : Int} (h : okS z = true) : z.toNat = 1 ∨ z.toNat = 2 ∨ z.toNat = 4 := by
  have : z = 1 ∨ z = 2 ∨ z = 4 := of_decide_eq_true h
  omega

theorem segQ_s {M : Mem} (h : RdB M) (c : Cp) (k off z : Int) (wr : Bool) (hf : (segQ M c k off z wr).f = none) : (segQ M c k off z wr).s.Ok ∧ (segQ M c k off z wr).s.n = z.toNat := by
  unfold segQ at hf ⊢
  split at hf
  · simp at hf
  · rename_i e; rw [if_neg e]
    split at hf
    · simp at hf
    · rename_i e2; rw [if_neg e2]
      have hz : okS z = true := by cases hz : okS z <;> simp_all
      exact findQ_s h _ _ _ _ _ _ _ (linB_bd _ _).1 (linB_bd _ _).2 (okS_n hz) hf
theorem sysQ_s {M : Mem} (h : RdB M) (c : Cp) (l z : Int) (wr : Bool) (l0 : 0 ≤ l) (l1 : l < 4294967296) (hf : (sysQ M c l z wr).f = none) : (sysQ M c l z wr).s.Ok ∧ (sysQ M c l z wr).s.n = z.toNat := by
  unfold sysQ at hf ⊢
  split at hf
  · simp at hf
  · rename_i e; rw [if_neg e]
    have hz : okS z = true := by cases hz : okS z <;> simp_all
    exact findQ_s h _ _ _ _ _ _ _ l0 l1 (okS_n hz) hf
theorem codQ_s {M : Mem} (h : RdB M) (c : Cp) (off : Int) (hf : (codQ M c off).f = none) : (codQ M c off).s.Ok ∧ (codQ M c off).s.n = 1 := by
  unfold codQ at hf ⊢
  split at hf
  · simp at hf
  · rename_i e; rw [if_neg e]
    exact findQ_s h _ _ _ _ _ _ _ (linB_bd _ _).1 (linB_bd _ _).2 (.inl rfl) hf

theorem segQ_n (M : Mem) (c : Cp) (k off z : Int) (wr : Bool) : (segQ M c k off z wr).m.n = M.n := by
  unfold segQ
  split
  · rfl
  split
  · rfl
  · exact findQ_n _ _ _ _ _ _ _ _
theorem sysQ_n (M : Mem) (c : Cp) (l z : Int) (wr : Bool) : (sysQ M c l z wr).m.n = M.n := by
  unfold sysQ
  split
  · rfl
  · exact findQ_n _ _ _ _ _ _ _ _
theorem codQ_n (M : Mem) (c : Cp) (off : Int) : (codQ M c off).m.n = M.n := by
  unfold codQ
  split
  · rfl
  · exact findQ_n _ _ _ _ _ _ _ _

theorem VmAt.in_all {w : World} {V K B pl tn : Nat} {M : Mem} (h : VmAt w V K B pl tn M) {j : Nat} (hj : inVm V K B M.n j) : j < w.heap.size := by
  rcases hj with e | e
  · rw [e]; exact h.lt
  · exact h.in_lt e

theorem load_any (w : World) (V K B pl tn C : Nat) (M : Mem) (h : VmAt w V K B pl tn M) (c : Cp) (hc : CpAt w C c) (hC : ¬ modVm K B M.n C) (k off z : Int) (o0 : 0 ≤ off) (o1 : off < 4294967296) (htn : tn < 18446744073709551613) :
    Calls Try.prog 16 #[.pointer (some ⟨V, 0, none⟩), .pointer (some ⟨C, 0, none⟩), .int .i64 k, .int .u32 off, .int .i64 z] w fun e w' => e = .returned (.tuple #[.int .u32 (segQ M c k off z false).val, (segQ M c k off z false).ft.val]) ∧ VmP w V K B pl tn (segQ M c k off z false).m 2 w' := by
  have hn := segQ_n M c k off z false
  have hs := segQ_s h.ram.rdB c k off z false
  have H : Hid (∀ W, Kp noB w W → Calls Try.prog 33 #[.pointer (some ⟨V, 0, none⟩), .pointer (some ⟨C, 0, none⟩), .int .i64 k, .int .u32 off, .int .i64 z, .bool false] W fun e w' => e = QE (segQ M c k off z false) ∧ VmP W V K B pl tn (segQ M c k off z false).m 2 w') := fun W kw => inSeg_any W V K B pl tn C M (h.kp0 kw) c (hc.kp0 kw) hC k off z false o0 o1 htn
  obtain ⟨q, hq⟩ : ∃ q, q = (segQ M c k off z false) := ⟨_, rfl⟩
  rw [← hq] at hn hs H ⊢
  have hm : ∀ j, modVm K B q.m.n j → j < w.heap.size := fun j hj => h.in_lt (by rw [← hn]; exact hj)
  have hI : ∀ j, inVm V K B q.m.n j → j < w.heap.size := fun j hj => h.in_all (by rw [← hn]; exact hj)
  clear hq
  cases hf : q.f with
  | some f =>
    have e1 : q.ft = f := by unfold Qy.ft; rw [hf]
    unfold QE at H
    rw [hf] at H
    rw [e1]
    rw [show q.val = 0 by unfold Qy.val; rw [hf]]
    refine (load_no w (some ⟨V, 0, none⟩) (some ⟨C, 0, none⟩) k off z f (modVm K B q.m.n) (fun w' => ∃ tn', tn' ≤ tn + 2 ∧ VmAt w' V K B pl tn' q.m) hm (fun W W' ⟨t, a, b⟩ k => ⟨t, a, b.kp k (fun j hj e => by have := hI j hj; omega)⟩) (fun W kw => (H.out W kw).mono (fun e w' ⟨a, b, c⟩ => ⟨a, c, b⟩))).mono ?_
    rintro e w' ⟨rfl, k, p⟩
    exact ⟨rfl, p, k⟩
  | none =>
    have e1 : q.ft = noFt := by unfold Qy.ft; rw [hf]
    unfold QE at H
    rw [hf] at H
    rw [e1]
    rw [show q.val = q.m.rdS q.s by unfold Qy.val; rw [hf]]
    exact load_ok w V K B pl tn (some ⟨C, 0, none⟩) k off z q (hs hf).1 hm h.lt H

theorem load_need (w : World) (pm pc : Option Addr) (k off z : Int) (cN : Hid (∀ W, Kp noB w W → Calls Try.prog 50 #[.pointer pm, .pointer pc] W fun e w' => e = .panicked (pan (ftV 13)) ∧ Kp noB W w')) :
    Calls Try.prog 16 #[.pointer pm, .pointer pc, .int .i64 k, .int .u32 off, .int .i64 z] w fun e w' => e = .returned (.tuple #[.int .u32 0, (ftV 13).val]) ∧ Kp noB w w' :=
  (load_no w pm pc k off z (ftV 13) noB (fun _ => True) (fun _ f => f.elim) (fun _ _ _ _ => trivial) (fun W kw => (inSeg_need W pm pc k off z false (fun W' k' => cN.out W' (kw.trans k'))).mono (fun e w' ⟨a, b⟩ => ⟨a, b, trivial⟩))).mono (fun e w' ⟨a, b, _⟩ => ⟨a, b⟩)

theorem store_any (w : World) (V K B pl tn C : Nat) (M : Mem) (h : VmAt w V K B pl tn M) (c : Cp) (hc : CpAt w C c) (hC : ¬ modVm K B M.n C) (k off z v : Int) (o0 : 0 ≤ off) (o1 : off < 4294967296) (v0 : 0 ≤ v) (v1 : v < 4294967296) (htn : tn < 18446744073709551613) :
    Calls Try.prog 15 #[.pointer (some ⟨V, 0, none⟩), .pointer (some ⟨C, 0, none⟩), .int .i64 k, .int .u32 off, .int .i64 z, .int .u32 v] w fun e w' => e = .returned ((segQ M c k off z true).ft.val) ∧ VmP w V K B pl tn ((segQ M c k off z true).put v) 2 w' := by
  have hn := segQ_n M c k off z true
  have hs := segQ_s h.ram.rdB c k off z true
  have H : Hid (∀ W, Kp noB w W → Calls Try.prog 33 #[.pointer (some ⟨V, 0, none⟩), .pointer (some ⟨C, 0, none⟩), .int .i64 k, .int .u32 off, .int .i64 z, .bool true] W fun e w' => e = QE (segQ M c k off z true) ∧ VmP W V K B pl tn (segQ M c k off z true).m 2 w') := fun W kw => inSeg_any W V K B pl tn C M (h.kp0 kw) c (hc.kp0 kw) hC k off z true o0 o1 htn
  obtain ⟨q, hq⟩ : ∃ q, q = (segQ M c k off z true) := ⟨_, rfl⟩
  rw [← hq] at hn hs H ⊢
  have hm : ∀ j, modVm K B q.m.n j → j < w.heap.size := fun j hj => h.in_lt (by rw [← hn]; exact hj)
  have hI : ∀ j, inVm V K B q.m.n j → j < w.heap.size := fun j hj => h.in_all (by rw [← hn]; exact hj)
  clear hq
  cases hf : q.f with
  | some f =>
    have e1 : q.ft = f := by unfold Qy.ft; rw [hf]
    unfold QE at H
    rw [hf] at H
    rw [e1]
    rw [show q.put v = q.m by unfold Qy.put; rw [hf]]
    refine (store_no w (some ⟨V, 0, none⟩) (some ⟨C, 0, none⟩) k off z v f (modVm K B q.m.n) (fun w' => ∃ tn', tn' ≤ tn + 2 ∧ VmAt w' V K B pl tn' q.m) hm (fun W W' ⟨t, a, b⟩ k => ⟨t, a, b.kp k (fun j hj e => by have := hI j hj; omega)⟩) (fun W kw => (H.out W kw).mono (fun e w' ⟨a, b, c⟩ => ⟨a, c, b⟩))).mono ?_
    rintro e w' ⟨rfl, k, p⟩
    exact ⟨rfl, p, k⟩
  | none =>
    have e1 : q.ft = noFt := by unfold Qy.ft; rw [hf]
    unfold QE at H
    rw [hf] at H
    rw [e1]
    rw [show q.put v = q.m.wrS q.s v by unfold Qy.put; rw [hf]]
    exact store_ok w V K B pl tn (some ⟨C, 0, none⟩) k off z v v0 v1 q (hs hf).1 hm h.lt H

theorem store_need (w : World) (pm pc : Option Addr) (k off z v : Int) (cN : Hid (∀ W, Kp noB w W → Calls Try.prog 50 #[.pointer pm, .pointer pc] W fun e w' => e = .panicked (pan (ftV 13)) ∧ Kp noB W w')) :
    Calls Try.prog 15 #[.pointer pm, .pointer pc, .int .i64 k, .int .u32 off, .int .i64 z, .int .u32 v] w fun e w' => e = .returned ((ftV 13).val) ∧ Kp noB w w' :=
  (store_no w pm pc k off z v (ftV 13) noB (fun _ => True) (fun _ f => f.elim) (fun _ _ _ _ => trivial) (fun W kw => (inSeg_need W pm pc k off z true (fun W' k' => cN.out W' (kw.trans k'))).mono (fun e w' ⟨a, b⟩ => ⟨a, b, trivial⟩))).mono (fun e w' ⟨a, b, _⟩ => ⟨a, b⟩)

theorem check_any (w : World) (V K B pl tn C : Nat) (M : Mem) (h : VmAt w V K B pl tn M) (c : Cp) (hc : CpAt w C c) (hC : ¬ modVm K B M.n C) (k off z : Int) (o0 : 0 ≤ off) (o1 : off < 4294967296) (htn : tn < 18446744073709551613) :
    Calls Try.prog 12 #[.pointer (some ⟨V, 0, none⟩), .pointer (some ⟨C, 0, none⟩), .int .i64 k, .int .u32 off, .int .i64 z] w fun e w' => e = .returned ((segQ M c k off z true).ft.val) ∧ VmP w V K B pl tn (segQ M c k off z true).m 2 w' := by
  have hn := segQ_n M c k off z true
  have hs := segQ_s h.ram.rdB c k off z true
  have H : Hid (∀ W, Kp noB w W → Calls Try.prog 33 #[.pointer (some ⟨V, 0, none⟩), .pointer (some ⟨C, 0, none⟩), .int .i64 k, .int .u32 off, .int .i64 z, .bool true] W fun e w' => e = QE (segQ M c k off z true) ∧ VmP W V K B pl tn (segQ M c k off z true).m 2 w') := fun W kw => inSeg_any W V K B pl tn C M (h.kp0 kw) c (hc.kp0 kw) hC k off z true o0 o1 htn
  obtain ⟨q, hq⟩ : ∃ q, q = (segQ M c k off z true) := ⟨_, rfl⟩
  rw [← hq] at hn hs H ⊢
  have hm : ∀ j, modVm K B q.m.n j → j < w.heap.size := fun j hj => h.in_lt (by rw [← hn]; exact hj)
  have hI : ∀ j, inVm V K B q.m.n j → j < w.heap.size := fun j hj => h.in_all (by rw [← hn]; exact hj)
  clear hq
  cases hf : q.f with
  | some f =>
    have e1 : q.ft = f := by unfold Qy.ft; rw [hf]
    unfold QE at H
    rw [hf] at H
    rw [e1]
    refine (check_no w (some ⟨V, 0, none⟩) (some ⟨C, 0, none⟩) k off z f (modVm K B q.m.n) (fun w' => ∃ tn', tn' ≤ tn + 2 ∧ VmAt w' V K B pl tn' q.m) hm (fun W W' ⟨t, a, b⟩ k => ⟨t, a, b.kp k (fun j hj e => by have := hI j hj; omega)⟩) (fun W kw => (H.out W kw).mono (fun e w' ⟨a, b, c⟩ => ⟨a, c, b⟩))).mono ?_
    rintro e w' ⟨rfl, k, p⟩
    exact ⟨rfl, p, k⟩
  | none =>
    have e1 : q.ft = noFt := by unfold Qy.ft; rw [hf]
    unfold QE at H
    rw [hf] at H
    rw [e1]
    exact check_ok w V K B pl tn (some ⟨C, 0, none⟩) k off z q (hs hf).1 hm h.lt H

theorem check_need (w : World) (pm pc : Option Addr) (k off z : Int) (cN : Hid (∀ W, Kp noB w W → Calls Try.prog 50 #[.pointer pm, .pointer pc] W fun e w' => e = .panicked (pan (ftV 13)) ∧ Kp noB W w')) :
    Calls Try.prog 12 #[.pointer pm, .pointer pc, .int .i64 k, .int .u32 off, .int .i64 z] w fun e w' => e = .returned ((ftV 13).val) ∧ Kp noB w w' :=
  (check_no w pm pc k off z (ftV 13) noB (fun _ => True) (fun _ f => f.elim) (fun _ _ _ _ => trivial) (fun W kw => (inSeg_need W pm pc k off z true (fun W' k' => cN.out W' (kw.trans k'))).mono (fun e w' ⟨a, b⟩ => ⟨a, b, trivial⟩))).mono (fun e w' ⟨a, b, _⟩ => ⟨a, b⟩)

theorem sys_any (w : World) (V K B pl tn C : Nat) (M : Mem) (h : VmAt w V K B pl tn M) (c : Cp) (hc : CpAt w C c) (hC : ¬ modVm K B M.n C) (off z : Int) (o0 : 0 ≤ off) (o1 : off < 4294967296) (htn : tn < 18446744073709551613) :
    Calls Try.prog 19 #[.pointer (some ⟨V, 0, none⟩), .pointer (some ⟨C, 0, none⟩), .int .u32 off, .int .i64 z] w fun e w' => e = .returned (.tuple #[.int .u32 (sysQ M c off z false).val, (sysQ M c off z false).ft.val]) ∧ VmP w V K B pl tn (sysQ M c off z false).m 2 w' := by
  have hn := sysQ_n M c off z false
  have hs := sysQ_s h.ram.rdB c off z false o0 o1
  have H : Hid (∀ W, Kp noB w W → Calls Try.prog 40 #[.pointer (some ⟨V, 0, none⟩), .pointer (some ⟨C, 0, none⟩), .int .u32 off, .int .i64 z, .bool false] W fun e w' => e = QE (sysQ M c off z false) ∧ VmP W V K B pl tn (sysQ M c off z false).m 2 w') := fun W kw => ofPro_any W V K B pl tn C M (h.kp0 kw) c (hc.kp0 kw) hC off z false o0 o1 htn
  obtain ⟨q, hq⟩ : ∃ q, q = (sysQ M c off z false) := ⟨_, rfl⟩
  rw [← hq] at hn hs H ⊢
  have hm : ∀ j, modVm K B q.m.n j → j < w.heap.size := fun j hj => h.in_lt (by rw [← hn]; exact hj)
  have hI : ∀ j, inVm V K B q.m.n j → j < w.heap.size := fun j hj => h.in_all (by rw [← hn]; exact hj)
  clear hq
  cases hf : q.f with
  | some f =>
    have e1 : q.ft = f := by unfold Qy.ft; rw [hf]
    unfold QE at H
    rw [hf] at H
    rw [e1]
    rw [show q.val = 0 by unfold Qy.val; rw [hf]]
    refine (sys_no w (some ⟨V, 0, none⟩) (some ⟨C, 0, none⟩) off z f (modVm K B q.m.n) (fun w' => ∃ tn', tn' ≤ tn + 2 ∧ VmAt w' V K B pl tn' q.m) hm (fun W W' ⟨t, a, b⟩ k => ⟨t, a, b.kp k (fun j hj e => by have := hI j hj; omega)⟩) (fun W kw => (H.out W kw).mono (fun e w' ⟨a, b, c⟩ => ⟨a, c, b⟩))).mono ?_
    rintro e w' ⟨rfl, k, p⟩
    exact ⟨rfl, p, k⟩
  | none =>
    have e1 : q.ft = noFt := by unfold Qy.ft; rw [hf]
    unfold QE at H
    rw [hf] at H
    rw [e1]
    rw [show q.val = q.m.rdS q.s by unfold Qy.val; rw [hf]]
    exact sys_ok w V K B pl tn (some ⟨C, 0, none⟩) off z q (hs hf).1 hm h.lt H

theorem sys_need (w : World) (pm pc : Option Addr) (off z : Int) (cN : Hid (∀ W, Kp noB w W → Calls Try.prog 50 #[.pointer pm, .pointer pc] W fun e w' => e = .panicked (pan (ftV 13)) ∧ Kp noB W w')) :
    Calls Try.prog 19 #[.pointer pm, .pointer pc, .int .u32 off, .int .i64 z] w fun e w' => e = .returned (.tuple #[.int .u32 0, (ftV 13).val]) ∧ Kp noB w w' :=
  (sys_no w pm pc off z (ftV 13) noB (fun _ => True) (fun _ f => f.elim) (fun _ _ _ _ => trivial) (fun W kw => (ofPro_need W pm pc off z false (fun W' k' => cN.out W' (kw.trans k'))).mono (fun e w' ⟨a, b⟩ => ⟨a, b, trivial⟩))).mono (fun e w' ⟨a, b, _⟩ => ⟨a, b⟩)

theorem setSys_any (w : World) (V K B pl tn C : Nat) (M : Mem) (h : VmAt w V K B pl tn M) (c : Cp) (hc : CpAt w C c) (hC : ¬ modVm K B M.n C) (off z v : Int) (o0 : 0 ≤ off) (o1 : off < 4294967296) (v0 : 0 ≤ v) (v1 : v < 4294967296) (htn : tn < 18446744073709551613) :
    Calls Try.prog 18 #[.pointer (some ⟨V, 0, none⟩), .pointer (some ⟨C, 0, none⟩), .int .u32 off, .int .i64 z, .int .u32 v] w fun e w' => e = .returned ((sysQ M c off z true).ft.val) ∧ VmP w V K B pl tn ((sysQ M c off z true).put v) 2 w' := by
  have hn := sysQ_n M c off z true
  have hs := sysQ_s h.ram.rdB c off z true o0 o1
  have H : Hid (∀ W, Kp noB w W → Calls Try.prog 40 #[.pointer (some ⟨V, 0, none⟩), .pointer (some ⟨C, 0, none⟩), .int .u32 off, .int .i64 z, .bool true] W fun e w' => e = QE (sysQ M c off z true) ∧ VmP W V K B pl tn (sysQ M c off z true).m 2 w') := fun W kw => ofPro_any W V K B pl tn C M (h.kp0 kw) c (hc.kp0 kw) hC off z true o0 o1 htn
  obtain ⟨q, hq⟩ : ∃ q, q = (sysQ M c off z true) := ⟨_, rfl⟩
  rw [← hq] at hn hs H ⊢
  have hm : ∀ j, modVm K B q.m.n j → j < w.heap.size := fun j hj => h.in_lt (by rw [← hn]; exact hj)
  have hI : ∀ j, inVm V K B q.m.n j → j < w.heap.size := fun j hj => h.in_all (by rw [← hn]; exact hj)
  clear hq
  cases hf : q.f with
  | some f =>
    have e1 : q.ft = f := by unfold Qy.ft; rw [hf]
    unfold QE at H
    rw [hf] at H
    rw [e1]
    rw [show q.put v = q.m by unfold Qy.put; rw [hf]]
    refine (setSys_no w (some ⟨V, 0, none⟩) (some ⟨C, 0, none⟩) off z v f (modVm K B q.m.n) (fun w' => ∃ tn', tn' ≤ tn + 2 ∧ VmAt w' V K B pl tn' q.m) hm (fun W W' ⟨t, a, b⟩ k => ⟨t, a, b.kp k (fun j hj e => by have := hI j hj; omega)⟩) (fun W kw => (H.out W kw).mono (fun e w' ⟨a, b, c⟩ => ⟨a, c, b⟩))).mono ?_
    rintro e w' ⟨rfl, k, p⟩
    exact ⟨rfl, p, k⟩
  | none =>
    have e1 : q.ft = noFt := by unfold Qy.ft; rw [hf]
    unfold QE at H
    rw [hf] at H
    rw [e1]
    rw [show q.put v = q.m.wrS q.s v by unfold Qy.put; rw [hf]]
    exact setSys_ok w V K B pl tn (some ⟨C, 0, none⟩) off z v v0 v1 q (hs hf).1 hm h.lt H

theorem setSys_need (w : World) (pm pc : Option Addr) (off z v : Int) (cN : Hid (∀ W, Kp noB w W → Calls Try.prog 50 #[.pointer pm, .pointer pc] W fun e w' => e = .panicked (pan (ftV 13)) ∧ Kp noB W w')) :
    Calls Try.prog 18 #[.pointer pm, .pointer pc, .int .u32 off, .int .i64 z, .int .u32 v] w fun e w' => e = .returned ((ftV 13).val) ∧ Kp noB w w' :=
  (setSys_no w pm pc off z v (ftV 13) noB (fun _ => True) (fun _ f => f.elim) (fun _ _ _ _ => trivial) (fun W kw => (ofPro_need W pm pc off z true (fun W' k' => cN.out W' (kw.trans k'))).mono (fun e w' ⟨a, b⟩ => ⟨a, b, trivial⟩))).mono (fun e w' ⟨a, b, _⟩ => ⟨a, b⟩)

theorem cde_any (w : World) (V K B pl tn C : Nat) (M : Mem) (h : VmAt w V K B pl tn M) (c : Cp) (hc : CpAt w C c) (hC : ¬ modVm K B M.n C) (off : Int) (o0 : 0 ≤ off) (o1 : off < 4294967296) (htn : tn < 18446744073709551613) :
    Calls Try.prog 20 #[.pointer (some ⟨V, 0, none⟩), .pointer (some ⟨C, 0, none⟩), .int .u32 off] w fun e w' => e = .returned (.tuple #[.int .u8 (codQ M c off).val, .int .u32 (codQ M c off).place, (codQ M c off).ft.val]) ∧ VmP w V K B pl tn (codQ M c off).m 2 w' := by
  have hn := codQ_n M c off
  have hs := codQ_s h.ram.rdB c off
  have H : Hid (∀ W, Kp noB w W → Calls Try.prog 43 #[.pointer (some ⟨V, 0, none⟩), .pointer (some ⟨C, 0, none⟩), .int .u32 off] W fun e w' => e = QE (codQ M c off) ∧ VmP W V K B pl tn (codQ M c off).m 2 w') := fun W kw => ofCod_any W V K B pl tn C M (h.kp0 kw) c (hc.kp0 kw) hC off o0 o1 htn
  obtain ⟨q, hq⟩ : ∃ q, q = (codQ M c off) := ⟨_, rfl⟩
  rw [← hq] at hn hs H ⊢
  have hm : ∀ j, modVm K B q.m.n j → j < w.heap.size := fun j hj => h.in_lt (by rw [← hn]; exact hj)
  have hI : ∀ j, inVm V K B q.m.n j → j < w.heap.size := fun j hj => h.in_all (by rw [← hn]; exact hj)
  clear hq
  cases hf : q.f with
  | some f =>
    have e1 : q.ft = f := by unfold Qy.ft; rw [hf]
    unfold QE at H
    rw [hf] at H
    rw [e1]
    rw [show q.val = 0 by unfold Qy.val; rw [hf], show q.place = 0 by unfold Qy.place; rw [hf]]
    refine (cde_no w (some ⟨V, 0, none⟩) (some ⟨C, 0, none⟩) off f (modVm K B q.m.n) (fun w' => ∃ tn', tn' ≤ tn + 2 ∧ VmAt w' V K B pl tn' q.m) hm (fun W W' ⟨t, a, b⟩ k => ⟨t, a, b.kp k (fun j hj e => by have := hI j hj; omega)⟩) (fun W kw => (H.out W kw).mono (fun e w' ⟨a, b, c⟩ => ⟨a, c, b⟩))).mono ?_
    rintro e w' ⟨rfl, k, p⟩
    exact ⟨rfl, p, k⟩
  | none =>
    have e1 : q.ft = noFt := by unfold Qy.ft; rw [hf]
    unfold QE at H
    rw [hf] at H
    rw [e1]
    rw [show q.val = q.m.rdS q.s by unfold Qy.val; rw [hf], show q.place = q.s.a by unfold Qy.place; rw [hf]]
    exact cde_ok w V K B pl tn (some ⟨C, 0, none⟩) off q (hs hf).1 (hs hf).2 hm h.lt H

theorem cde_need (w : World) (pm pc : Option Addr) (off : Int) (cN : Hid (∀ W, Kp noB w W → Calls Try.prog 50 #[.pointer pm, .pointer pc] W fun e w' => e = .panicked (pan (ftV 13)) ∧ Kp noB W w')) :
    Calls Try.prog 20 #[.pointer pm, .pointer pc, .int .u32 off] w fun e w' => e = .returned (.tuple #[.int .u8 0, .int .u32 0, (ftV 13).val]) ∧ Kp noB w w' :=
  (cde_no w pm pc off (ftV 13) noB (fun _ => True) (fun _ f => f.elim) (fun _ _ _ _ => trivial) (fun W kw => (ofCod_need W pm pc off (fun W' k' => cN.out W' (kw.trans k'))).mono (fun e w' ⟨a, b⟩ => ⟨a, b, trivial⟩))).mono (fun e w' ⟨a, b, _⟩ => ⟨a, b⟩)
end Go.Proofs.Ytmmnnafjikilpaa
