/- Two buses in one world. -/
import Derived.Test.YtclejmdmbanedaaGreatBp35
import Derived.Test.YtclejmdmbanedaaGreatBsTicks
namespace Go.Proofs.YtclejmdmbanedaaGreat.Bs
open Go.ChangeShapes Go.WideShapes Go.ChangeAt Go.RowKit
open Go.Proofs.YtclejmdmbanedaaGreat.Ut (Kp heap_lt heap_kept heap_set heap_new noB isB kpB)
set_option linter.unusedVariables false
set_option maxRecDepth 20000

def DD (R : Nat → Res) (Lb : Loc) (x : Bm) (Lc : Loc) (y : Bm) : Nat → Res := updR (updR R 0 (busR Lb x)) 2 (busR Lc y)

theorem upd_id {Rs : Nat → Res} {i : Nat} {r : Res} (h : Rs i = r) : updR Rs i r = Rs := by
  funext j
  unfold updR
  by_cases e : j = i
  · rw [if_pos e, e, h]
  · rw [if_neg e]

section
variable {W w : World} {R : Nat → Res} {Lb Lc : Loc} {x y : Bm}

theorem DD.flip : DD R Lb x Lc y = updR (updR R 2 (busR Lc y)) 0 (busR Lb x) := upd_comm _ (by decide) _ _

theorem ddB {f : FuncId} {args : Array Value} {E : Ending → Prop} {x' : Bm} (h : Hs W w (DD R Lb x Lc y)) (hc : ∀ S, BW w S Lb x → Calls Tryz.prog f args w fun e w' => E e ∧ BNx w S Lb x' w') : Calls Tryz.prog f args w fun e w' => E e ∧ Hs W w' (DD R Lb x' Lc y) := by
  rw [DD.flip] at h
  exact (h.bus' hc).mono fun e w' ⟨q, r⟩ => ⟨q, by rw [DD.flip]; exact r⟩
theorem ddC {f : FuncId} {args : Array Value} {E : Ending → Prop} {y' : Bm} (h : Hs W w (DD R Lb x Lc y)) (hc : ∀ S, BW w S Lc y → Calls Tryz.prog f args w fun e w' => E e ∧ BNx w S Lc y' w') : Calls Tryz.prog f args w fun e w' => E e ∧ Hs W w' (DD R Lb x Lc y') := h.bus' hc
theorem ddBw (h : Hs W w (DD R Lb x Lc y)) : (∃ S, BW w S Lb x) ∧ ∃ S, BW w S Lc y := by
  refine ⟨?_, h.bw⟩
  rw [DD.flip] at h
  exact h.bw

theorem DD.up {r : Res} {j : Nat} (j0 : j ≠ 0) (j2 : j ≠ 2) : updR (DD R Lb x Lc y) j r = DD (updR R j r) Lb x Lc y := by
  unfold DD
  rw [upd_comm _ (Ne.symm j2), upd_comm _ (Ne.symm j0)]
theorem DD.at {j : Nat} (j0 : j ≠ 0) (j2 : j ≠ 2) : DD R Lb x Lc y j = R j := by
  unfold DD
  rw [upd_other j2, upd_other j0]

theorem ddNew (h : Hs W w (DD R Lb x Lc y)) {j : Nat} (hR : R j = .none) (j0 : j ≠ 0) (j2 : j ≠ 2) (o : Obj) : Hs W (w.alloc o) (DD (updR R j (.blk w.heap.size o)) Lb x Lc y) := by
  rw [← DD.up j0 j2]
  exact h.new (by rw [DD.at j0 j2]; exact hR) (T' := isB w.heap.size) ⟨rfl, heap_new _ _⟩ (fun k (g : k = w.heap.size) => by rw [g]; exact ⟨Nat.le_refl _, by simp⟩) (Kp.alloc _ _ _)
theorem ddDrop {j : Nat} {r : Res} (h : Hs W w (DD (updR R j r) Lb x Lc y)) (hR : R j = .none) (j0 : j ≠ 0) (j2 : j ≠ 2) : Hs W w (DD R Lb x Lc y) := by
  have := h.drop j
  rw [DD.up j0 j2, upd_twice, upd_id hR] at this
  exact this
theorem ddBlk {j : Nat} {X : Nat} {o : Obj} (h : Hs W w (DD (updR R j (.blk X o)) Lb x Lc y)) (j0 : j ≠ 0) (j2 : j ≠ 2) : w.heap[X]? = some o := by
  obtain ⟨T, a⟩ := h.at j
  rw [DD.at j0 j2, upd_self] at a
  exact a.2

theorem outB (h : Hs W w (DD R Lb x Lc y)) (k : x.Ok) (p s v : Int) (p0 : 0 ≤ p) (p1 : p < 65536) (v0 : 0 ≤ v) (v1 : v < 4294967296) (hw : x.wk + 16 < 9007199254740) : Calls Tryz.prog 22 #[.pointer (some ⟨Lb.B, 0, none⟩), .int .u16 p, .int .i64 s, .int .u32 v] w fun e w' => e = .returned (.int .i64 (erS s)) ∧ Hs W w' (DD R Lb (x.out p s v) Lc y) := ddB h fun S b => out_ok b k p s v p0 p1 v0 v1 hw
theorem outC (h : Hs W w (DD R Lb x Lc y)) (k : y.Ok) (p s v : Int) (p0 : 0 ≤ p) (p1 : p < 65536) (v0 : 0 ≤ v) (v1 : v < 4294967296) (hw : y.wk + 16 < 9007199254740) : Calls Tryz.prog 22 #[.pointer (some ⟨Lc.B, 0, none⟩), .int .u16 p, .int .i64 s, .int .u32 v] w fun e w' => e = .returned (.int .i64 (erS s)) ∧ Hs W w' (DD R Lb x Lc (y.out p s v)) := ddC h fun S b => out_ok b k p s v p0 p1 v0 v1 hw
theorem inB (h : Hs W w (DD R Lb x Lc y)) (k : x.Ok) (p s : Int) (p0 : 0 ≤ p) (p1 : p < 65536) : Calls Tryz.prog 24 #[.pointer (some ⟨Lb.B, 0, none⟩), .int .u16 p, .int .i64 s] w fun e w' => e = .returned (.tuple #[.int .u32 (x.innV p s), .int .i64 (erS s)]) ∧ Hs W w' (DD R Lb (x.inn p s) Lc y) := ddB h fun S b => in_ok b k p s p0 p1
theorem inC (h : Hs W w (DD R Lb x Lc y)) (k : y.Ok) (p s : Int) (p0 : 0 ≤ p) (p1 : p < 65536) : Calls Tryz.prog 24 #[.pointer (some ⟨Lc.B, 0, none⟩), .int .u16 p, .int .i64 s] w fun e w' => e = .returned (.tuple #[.int .u32 (y.innV p s), .int .i64 (erS s)]) ∧ Hs W w' (DD R Lb x Lc (y.inn p s)) := ddC h fun S b => in_ok b k p s p0 p1
theorem tickB (h : Hs W w (DD R Lb x Lc y)) (k : x.Ok) (n : Int) (n1 : n ≤ 9223372036854775807) : Calls Tryz.prog 23 #[.pointer (some ⟨Lb.B, 0, none⟩), .int .i64 n] w fun e w' => e = .returned (.tuple #[]) ∧ Hs W w' (DD R Lb (x.tickN n) Lc y) := ddB h fun S b => tick_ok b k n n1
theorem tickC (h : Hs W w (DD R Lb x Lc y)) (k : y.Ok) (n : Int) (n1 : n ≤ 9223372036854775807) : Calls Tryz.prog 23 #[.pointer (some ⟨Lc.B, 0, none⟩), .int .i64 n] w fun e w' => e = .returned (.tuple #[]) ∧ Hs W w' (DD R Lb x Lc (y.tickN n)) := ddC h fun S b => tick_ok b k n n1
theorem ackB (h : Hs W w (DD R Lb x Lc y)) (k : x.Ok) : Calls Tryz.prog 25 #[.pointer (some ⟨Lb.B, 0, none⟩)] w fun e w' => e = .returned (.int .i64 x.p.vec) ∧ Hs W w' (DD R Lb x.ack Lc y) := ddB h fun S b => ack_ok b k
theorem ackC (h : Hs W w (DD R Lb x Lc y)) (k : y.Ok) : Calls Tryz.prog 25 #[.pointer (some ⟨Lc.B, 0, none⟩)] w fun e w' => e = .returned (.int .i64 y.p.vec) ∧ Hs W w' (DD R Lb x Lc y.ack) := ddC h fun S b => ack_ok b k
theorem pendB (h : Hs W w (DD R Lb x Lc y)) (k : x.Ok) : Calls Tryz.prog 15 #[.pointer (some ⟨Lb.B, 0, none⟩)] w fun e w' => e = .returned (.bool (x.p.a.next != -1)) ∧ Hs W w' (DD R Lb x Lc y) := by
  obtain ⟨⟨S, b⟩, _⟩ := ddBw h
  exact (pend_ok b k).mono fun e w' ⟨q, r⟩ => ⟨q, h.keep r⟩
theorem pendC (h : Hs W w (DD R Lb x Lc y)) (k : y.Ok) : Calls Tryz.prog 15 #[.pointer (some ⟨Lc.B, 0, none⟩)] w fun e w' => e = .returned (.bool (y.p.a.next != -1)) ∧ Hs W w' (DD R Lb x Lc y) := by
  obtain ⟨_, S, b⟩ := ddBw h
  exact (pend_ok b k).mono fun e w' ⟨q, r⟩ => ⟨q, h.keep r⟩
theorem nowB (h : Hs W w (DD R Lb x Lc y)) : Calls Tryz.prog 17 #[.pointer (some ⟨Lb.B, 0, none⟩)] w fun e w' => e = .returned (.int .u64 x.now) ∧ w' = w := by
  obtain ⟨⟨S, b⟩, _⟩ := ddBw h
  exact now_ok b
theorem nowC (h : Hs W w (DD R Lb x Lc y)) : Calls Tryz.prog 17 #[.pointer (some ⟨Lc.B, 0, none⟩)] w fun e w' => e = .returned (.int .u64 y.now) ∧ w' = w := by
  obtain ⟨_, S, b⟩ := ddBw h
  exact now_ok b
theorem sentB (h : Hs W w (DD R Lb x Lc y)) {j : Nat} (hR : R j = .none) (j0 : j ≠ 0) (j2 : j ≠ 2) : Calls Tryz.prog 26 #[.pointer (some ⟨Lb.B, 0, none⟩)] w fun e w' => ∃ p c, e = .returned (.slice p x.u.sent.length c) ∧ Hs W w' (DD (updR R j (bytR (.slice p x.u.sent.length c) x.u.sent)) Lb { x with u := x.u.hush } Lc y) := by
  rw [DD.flip] at h
  refine (rSent h (j := j) (by rw [upd_other j2]; exact hR) (Ne.symm j0)).mono fun e w' ⟨p, c, q, r⟩ => ⟨p, c, q, ?_⟩
  rw [← DD.up j0 j2, DD.flip]
  exact r
theorem sentC (h : Hs W w (DD R Lb x Lc y)) {j : Nat} (hR : R j = .none) (j0 : j ≠ 0) (j2 : j ≠ 2) : Calls Tryz.prog 26 #[.pointer (some ⟨Lc.B, 0, none⟩)] w fun e w' => ∃ p c, e = .returned (.slice p y.u.sent.length c) ∧ Hs W w' (DD (updR R j (bytR (.slice p y.u.sent.length c) y.u.sent)) Lb x Lc { y with u := y.u.hush }) := by
  refine (rSent h (j := j) (by rw [upd_other j0]; exact hR) (Ne.symm j2)).mono fun e w' ⟨p, c, q, r⟩ => ⟨p, c, q, ?_⟩
  rw [← DD.up j0 j2]
  exact r
theorem ddStr {j : Nat} {v : Value} {l : List Int} (h : Hs W w (DD (updR R j (bytR v l)) Lb x Lc y)) (j0 : j ≠ 0) (j2 : j ≠ 2) : (convert 22 9 v).run Tryz.prog w = .ok (.string (strOfNums l)) w := by
  rw [← DD.up j0 j2] at h
  exact h.str
end

theorem join_dd {Lb Lc : Loc} {x y : Bm} {d d' : Res} : joinR 2 (two (busR Lb x) d) (two (busR Lc y) d') = DD (joinR 2 (two .none d) (two .none d')) Lb x Lc y := by
  funext j
  match j with
  | 0 | 1 | 2 | 3 => rfl
  | n + 4 => rfl
theorem join_free {d d' : Res} {j : Nat} (h : 4 ≤ j) : joinR 2 (two .none d) (two .none d') j = .none := by
  unfold joinR two
  rw [if_neg (by omega), if_neg (by omega), if_neg (by omega)]

def x20 : Bm := (bm0 2 (Dk.dB 1024 (Dk.dskS 0)) (Rm.mem0 1)).tell
theorem qt20 : Qt x20 := .new (Dk.idN_ok (L := 1024) (bt := Dk.dskS 0) (by decide) (fun j _ => Dk.dskS_byt 0 j))
theorem wk20 : x20.wk = 0 := rfl

/-- A disk of two sectors, and both buses over it. -/
theorem both20 (w : World) : Calls Tryz.prog 21 #[.int .i64 2, .int .u8 0] w fun e w' => e = .returned (.slice (some ⟨w.heap.size, 0, none⟩) 1024 1024) ∧ Kp noB w w' ∧ Calls Tryz.prog 13 #[.int .i64 1, .slice (some ⟨w.heap.size, 0, none⟩) 1024 1024] w' (BothP w' x20 x20) := by
  have e1 : Dk.secN 2 = 2 := by kernel_rfl
  have h := Dk.lDisk_any w 2 0 (by decide) (by decide) ⟨by decide, by decide⟩
  rw [e1] at h
  refine h.mono fun e w' ⟨q, r, k⟩ => ⟨q, kDk k, ?_⟩
  exact both_ok w' 1 (by decide) (by decide) (some ⟨w.heap.size, 0, none⟩) 1024 1024 (Dk.dskS 0) r.at (fun j _ => Dk.dskS_byt 0 j) (by decide) (by decide)

def opO (kd pt sz v : Int) : Obj := .cells #[.int .i64 kd, .int .u16 pt, .int .i64 sz, .int .u32 v] 44 (0, 0)
theorem opO_cells {w : World} {X : Nat} {kd pt sz v : Int} (h : w.heap[X]? = some (opO kd pt sz v)) : w.cell? ⟨X, 0, none⟩ = some (.int .i64 kd) ∧ w.cell? ⟨X, 1, none⟩ = some (.int .u16 pt) ∧ w.cell? ⟨X, 2, none⟩ = some (.int .i64 sz) ∧ w.cell? ⟨X, 3, none⟩ = some (.int .u32 v) := ⟨cell_of h rfl, cell_of h rfl, cell_of h rfl, cell_of h rfl⟩
end Go.Proofs.YtclejmdmbanedaaGreat.Bs
