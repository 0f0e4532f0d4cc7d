/- The document's reader, and the code's (RfBase, RfNum). -/
import Derived.Test.YtbfccfhjgopnbaaGreatDr03
import Derived.LoopTactic
set_option linter.unusedSimpArgs false
namespace Go.Proofs.YtbfccfhjgopnbaaGreat
open Go.ChangeShapes Go.WideShapes Go.ChangeAt Go.RowKit
set_option linter.unusedVariables false
def rdC (X : Cx) (σ : Sg) (f : Int × Int × Int) (c : Int) : Array Value := #[.slice X.p X.L X.cap, .int .i64 σ.at', .int .i64 σ.err, .int .i64 σ.seg, .int .i64 σ.v, .int .i64 σ.rep, .int .i64 f.1, .int .i64 f.2.1, .int .i64 f.2.2, .int .i64 c]
structure RSt (X : Cx) (w : World) (σ : Sg) (f : Int × Int × Int) (c : Int) : Prop where
  src : w.heap[X.S]? = some (.cells (rdC X σ f c) 46 (0, 0))
  byt : ∀ j, j < X.L → ∃ b o, X.p = some ⟨b, o, none⟩ ∧ b < X.lo ∧ w.cell? ⟨b, o + j, none⟩ = some (.int .u8 (X.bt j))
  bd : ∀ j, j < X.L → 0 ≤ X.bt j ∧ X.bt j < 256
  lt : X.L ≤ 4611686018427387904
  le : σ.at' ≤ 15
  lL : σ.at' ≤ X.L
  lo : X.lo ≤ X.S
  vv : σ.v = 2 ∨ σ.v = 4
  sg : -1 ≤ σ.seg
def rOwn (X : Cx) (k : Nat) : Prop := k = X.S
def RDn (X : Cx) (w : World) (σ : Sg) (f : Int × Int × Int) (c : Int) (w' : World) : Prop := RSt X w' σ f c ∧ Kp (rOwn X) w w'
theorem RSt.kp {X : Cx} {w w' : World} {σ : Sg} {f : Int × Int × Int} {c : Int} (h : RSt X w σ f c) (k : Kp noB w w') : RSt X w' σ f c :=
  ⟨heap_kept h.src k id, fun j hj => by
    obtain ⟨b, o, e, hb, hc⟩ := h.byt j hj
    exact ⟨b, o, e, hb, cell_kept hc k id⟩, h.bd, h.lt, h.le, h.lL, h.lo, h.vv, h.sg⟩
theorem RSt.set {X : Cx} {w : World} {σ σ' : Sg} {f f' : Int × Int × Int} {c c' : Int} (h : RSt X w σ f c) (k : Nat) (v : Value) (e : (rdC X σ f c).setIfInBounds k v = rdC X σ' f' c') (le : σ'.at' ≤ 15) (lL : σ'.at' ≤ X.L) (vv : (σ'.v = 2 ∨ σ'.v = 4) ∧ -1 ≤ σ'.seg) : RSt X (w.setCell ⟨X.S, k, none⟩ v) σ' f' c' := by
  have k' : Kp (rOwn X) w (w.setCell ⟨X.S, k, none⟩ v) := Kp.setCell (S := rOwn X) w (p := ⟨X.S, k, none⟩) rfl v
  refine ⟨by rw [heap_set h.src, e], fun j hj => ?_, h.bd, h.lt, le, lL, h.lo, vv.1, vv.2⟩
  obtain ⟨b, o, e1, hb, hc⟩ := h.byt j hj
  exact ⟨b, o, e1, hb, cell_kept hc k' (by show ¬ b = X.S; have := h.lo; omega)⟩
theorem kpS (X : Cx) (w : World) (k : Nat) (v : Value) : Kp (rOwn X) w (w.setCell ⟨X.S, k, none⟩ v) := Kp.setCell (S := rOwn X) w (p := ⟨X.S, k, none⟩) rfl v
theorem RSt.other {X : Cx} {w w' : World} {σ : Sg} {f : Int × Int × Int} {c : Int} {q : Nat} (h : RSt X w σ f c) (k : Kp (fun b => b = q) w w') (hq : X.S < q) : RSt X w' σ f c :=
  ⟨heap_kept h.src k (by show ¬ X.S = q; omega), fun j hj => by
    obtain ⟨b, o, e, hb, hc⟩ := h.byt j hj
    exact ⟨b, o, e, hb, cell_kept hc k (by show ¬ b = q; have := h.lo; omega)⟩, h.bd, h.lt, h.le, h.lL, h.lo, h.vv, h.sg⟩
section
variable {X : Cx} {w : World} {σ : Sg} {f : Int × Int × Int} {c : Int}
theorem RSt.c0 (h : RSt X w σ f c) : w.cell? ⟨X.S, 0, none⟩ = some (.slice X.p X.L X.cap) := by simp [World.cell?, h.src, rdC]
theorem RSt.c1 (h : RSt X w σ f c) : w.cell? ⟨X.S, 1, none⟩ = some (.int .i64 σ.at') := by simp [World.cell?, h.src, rdC]
theorem RSt.c2 (h : RSt X w σ f c) : w.cell? ⟨X.S, 2, none⟩ = some (.int .i64 σ.err) := by simp [World.cell?, h.src, rdC]
theorem RSt.c3 (h : RSt X w σ f c) : w.cell? ⟨X.S, 3, none⟩ = some (.int .i64 σ.seg) := by simp [World.cell?, h.src, rdC]
theorem RSt.c4 (h : RSt X w σ f c) : w.cell? ⟨X.S, 4, none⟩ = some (.int .i64 σ.v) := by simp [World.cell?, h.src, rdC]
theorem RSt.c5 (h : RSt X w σ f c) : w.cell? ⟨X.S, 5, none⟩ = some (.int .i64 σ.rep) := by simp [World.cell?, h.src, rdC]
theorem RSt.c6 (h : RSt X w σ f c) : w.cell? ⟨X.S, 6, none⟩ = some (.int .i64 f.1) := by simp [World.cell?, h.src, rdC]
theorem RSt.c7 (h : RSt X w σ f c) : w.cell? ⟨X.S, 7, none⟩ = some (.int .i64 f.2.1) := by simp [World.cell?, h.src, rdC]
theorem RSt.c8 (h : RSt X w σ f c) : w.cell? ⟨X.S, 8, none⟩ = some (.int .i64 f.2.2) := by simp [World.cell?, h.src, rdC]
theorem RSt.c9 (h : RSt X w σ f c) : w.cell? ⟨X.S, 9, none⟩ = some (.int .i64 c) := by simp [World.cell?, h.src, rdC]
theorem RSt.fz (h : RSt X w σ f c) (j : Nat) : w.frozen? ⟨X.S, j, none⟩ = false := by simp [World.frozen?, h.src]
theorem RSt.ltS (h : RSt X w σ f c) : X.S < w.heap.size := heap_lt h.src
theorem RSt.drewN (h : RSt X w σ f c) (n : Nat) : RSt X (w.drewN n) σ f c := h.kp ((Kp.refl _ _).drewN n)
theorem RSt.alloc (h : RSt X w σ f c) (o : Obj) : RSt X (w.alloc o) σ f c := h.kp (Kp.alloc _ _ _)
end
theorem rtake_bd {w : World} {X : Cx} {σ : Sg} {f : Int × Int × Int} {c : Int} (h : RSt X w σ f c) : 0 ≤ (take X σ).1 ∧ (take X σ).1 < 256 := by
  unfold take
  split
  · exact ⟨Int.le_refl _, (by decide : (0 : Int) < 256)⟩
  · split
    · exact ⟨Int.le_refl _, (by decide : (0 : Int) < 256)⟩
    · split
      · exact ⟨Int.le_refl _, (by decide : (0 : Int) < 256)⟩
      · exact h.bd _ (by have := h.lL; omega)
theorem next_ok (w : World) (X : Cx) (σ : Sg) (f : Int × Int × Int) (c : Int) (h : RSt X w σ f c) :
    Calls Tryz.prog 11 #[.pointer (some ⟨X.S, 0, none⟩)] w fun e w' => e = .returned (.int .i64 (take X σ).1) ∧ RDn X w (take X σ).2 f c w' := by
  have c0 := h.c0
  have c1 := h.c1
  have c2 := h.c2
  have z1 := h.fz 1
  have z2 := h.fz 2
  have hL := h.lt
  have hl := h.le
  have hlL := h.lL
  obtain ⟨a, ha⟩ : ∃ a, a = σ.at' := ⟨_, rfl⟩
  obtain ⟨er, her⟩ : ∃ er, er = σ.err := ⟨_, rfl⟩
  obtain ⟨L, hLe⟩ : ∃ L, L = X.L := ⟨_, rfl⟩
  rw [← ha] at c1 hl hlL
  rw [← her] at c2
  rw [← hLe] at c0 hL hlL
  have Ha : Hid (a = σ.at') := ha
  have He : Hid (er = σ.err) := her
  have HLe : Hid (L = X.L) := hLe
  clear ha her hLe
  by_cases e0 : er = 0
  · by_cases e1 : (a : Int) = 15
    · have ht : take X σ = (0, { σ with err := 62 }) := by
        unfold take
        rw [if_neg (by rw [← He.out]; simpa using e0), if_pos (by rw [← Ha.out]; omega)]
      rw [ht]
      have g1 : (15 : Int) ≤ (a : Int) := by omega
      go_enter Tryz.func11, Tryz.ntmps11
      go_wp2
      go_ret
      exact ⟨rfl, h.set 2 _ rfl h.le h.lL ⟨h.vv, h.sg⟩, kpS X w _ _⟩
    · have g1 : ¬ (15 : Int) ≤ (a : Int) := by omega
      have g1' : decide ((a : Int) ≥ 15) = false := by simp; omega
      by_cases e2 : (a : Int) = (L : Int)
      · have ht : take X σ = (0, { σ with err := 61 }) := by
          unfold take
          rw [if_neg (by rw [← He.out]; simpa using e0), if_neg (by rw [← Ha.out]; omega), if_pos (by rw [← Ha.out, ← HLe.out]; omega)]
        rw [ht]
        have g2 : (L : Int) ≤ (a : Int) := by omega
        go_enter Tryz.func11, Tryz.ntmps11
        go_wp2
        go_quiet (fail)
        go_wp2
        go_ret
        exact ⟨rfl, (h.drewN _).set 2 _ rfl h.le h.lL ⟨h.vv, h.sg⟩, ((Kp.refl _ w).drewN _).trans (kpS X _ _ _)⟩
      · obtain ⟨b, o, hp, hb, hc⟩ := h.byt a (by have := HLe.out; omega)
        have hbS : ¬ b = X.S := by have := h.lo; omega
        have hbS' : ¬ X.S = b := fun e => hbS e.symm
        obtain ⟨y, hy⟩ : ∃ y, y = X.bt a := ⟨_, rfl⟩
        have ht : take X σ = (y, { σ with at' := a + 1 }) := by
          unfold take
          rw [if_neg (by rw [← He.out]; simpa using e0), if_neg (by rw [← Ha.out]; omega), if_neg (by rw [← Ha.out, ← HLe.out]; omega), ← Ha.out, hy]
        rw [← hy] at hc
        have hyb := h.bd a (by have := HLe.out; omega)
        rw [← hy] at hyb
        obtain ⟨y0, y1⟩ := hyb
        clear hy
        rw [hp] at c0
        have i0 : 0 ≤ (a : Int) := by omega
        have i1 : (a : Int) < (L : Int) := by omega
        have g2 : decide ((a : Int) ≥ (L : Int)) = false := by simp; omega
        have hw : IntKind.i64.wrap (a : Int) = a := IntWalk.i64_in _ ⟨by omega, by omega⟩
        have hw1 : IntKind.i64.wrap ((a : Int) + 1) = (a : Int) + 1 := IntWalk.i64_in _ ⟨by omega, by omega⟩
        have hlast : ∀ n m : Nat, RDn X w { σ with at' := a + 1 } f c (((w.drewN n).setCell ⟨X.S, 1, none⟩ (.int .i64 ((a : Int) + 1))).drewN m) := fun n m => by
          refine ⟨((h.drewN n).set (σ' := { σ with at' := a + 1 }) 1 _ ?_ (by show a + 1 ≤ 15; omega) (by show a + 1 ≤ X.L; have := HLe.out; omega) ⟨h.vv, h.sg⟩).drewN m, (((Kp.refl _ w).drewN n).trans (kpS X _ _ _)).drewN m⟩
          rfl
        have Hlast : Hid (∀ n m : Nat, RDn X w { σ with at' := a + 1 } f c (((w.drewN n).setCell ⟨X.S, 1, none⟩ (.int .i64 ((a : Int) + 1))).drewN m)) := hlast
        clear hlast
        rw [ht]
        go_enter Tryz.func11, Tryz.ntmps11
        go_wp2
        go_quiet (fail)
        go_wp2
        go_quiet (fail)
        go_wp2
        go_ret
        exact ⟨rfl, Hlast.out _ _⟩
  · have e0' : (er != 0) = true := by simpa using e0
    have ht : take X σ = (0, σ) := by
      unfold take
      rw [if_pos (by rw [← He.out]; exact e0)]
    rw [ht]
    go_enter Tryz.func11, Tryz.ntmps11
    go_wp2
    go_ret
    exact ⟨rfl, h, Kp.refl _ _⟩
theorem ud_ok (w : World) (X : Cx) (σ : Sg) (f : Int × Int × Int) (c : Int) (h : RSt X w σ f c) :
    Calls Tryz.prog 31 #[.pointer (some ⟨X.S, 0, none⟩)] w fun e w' => e = .returned (.tuple #[]) ∧ RDn X w (refuse σ) f c w' := by
  have c2 := h.c2
  have z2 := h.fz 2
  obtain ⟨er, her⟩ : ∃ er, er = σ.err := ⟨_, rfl⟩
  rw [← her] at c2
  have He : Hid (er = σ.err) := her
  clear her
  by_cases e0 : er = 0
  · have ht : refuse σ = { σ with err := 60 } := by unfold refuse; rw [if_pos (by rw [← He.out]; exact e0)]
    rw [ht]
    go_enter Tryz.func31, Tryz.ntmps31
    go_wp2
    go_end0
    exact ⟨rfl, h.set 2 _ rfl h.le h.lL ⟨h.vv, h.sg⟩, kpS X w _ _⟩
  · have ht : refuse σ = σ := by unfold refuse; rw [if_neg (by rw [← He.out]; exact e0)]
    rw [ht]
    have e0' : (er == 0) = false := by simpa using e0
    go_enter Tryz.func31, Tryz.ntmps31
    go_wp2
    go_end0
    exact ⟨rfl, h, Kp.refl _ _⟩
def mrS (X : Cx) (σ : Sg) : Sg := { (take X σ).2 with fl := some ((take X σ).1 / 64, (take X σ).1 / 8 % 8, (take X σ).1 % 8) }
theorem mr_none {X : Cx} {σ : Sg} (h : σ.fl = none) : modrm X σ = (((take X σ).1 / 64, (take X σ).1 / 8 % 8, (take X σ).1 % 8), mrS X σ) := by
  unfold modrm
  rw [h]
  rfl
theorem rmodrm_ok (w : World) (X : Cx) (σ : Sg) (f : Int × Int × Int) (c : Int) (h : RSt X w σ f c) (hf : σ.fl = none) :
    Calls Tryz.prog 205 #[.pointer (some ⟨X.S, 0, none⟩)] w fun e w' => e = .returned (.tuple #[]) ∧ RDn X w (modrm X σ).2 (modrm X σ).1 c w' := by
  have cN := next_ok w X σ f c h
  have hbd := rtake_bd h
  rw [mr_none hf]
  unfold mrS
  generalize (take X σ).1 = b at *
  generalize (take X σ).2 = σ1 at *
  obtain ⟨b0, b1⟩ := hbd
  clear h hf
  go_enter Tryz.func205, Tryz.ntmps205
  go_wp2_with fail
  refine cN.mono ?_; rintro e w1 ⟨rfl, h1, k1⟩
  have d6 := h1.c6
  have d7 := h1.c7
  have d8 := h1.c8
  have z6 := h1.fz 6
  have z7 := h1.fz 7
  have z8 := h1.fz 8
  have Hd : Hid (RDn X w { σ1 with fl := some (b / 64, b / 8 % 8, b % 8) } (b / 64, b / 8 % 8, b % 8) c (((w1.setCell ⟨X.S, 6, none⟩ (.int .i64 (b / 64))).setCell ⟨X.S, 7, none⟩ (.int .i64 (b / 8 % 8))).setCell ⟨X.S, 8, none⟩ (.int .i64 (b % 8)))) := by
    have s1 : RSt X (w1.setCell ⟨X.S, 6, none⟩ (.int .i64 (b / 64))) σ1 (b / 64, f.2.1, f.2.2) c := h1.set 6 _ rfl h1.le h1.lL ⟨h1.vv, h1.sg⟩
    have s2 : RSt X ((w1.setCell ⟨X.S, 6, none⟩ (.int .i64 (b / 64))).setCell ⟨X.S, 7, none⟩ (.int .i64 (b / 8 % 8))) σ1 (b / 64, b / 8 % 8, f.2.2) c := s1.set 7 _ rfl s1.le s1.lL ⟨s1.vv, s1.sg⟩
    have s3 : RSt X (((w1.setCell ⟨X.S, 6, none⟩ (.int .i64 (b / 64))).setCell ⟨X.S, 7, none⟩ (.int .i64 (b / 8 % 8))).setCell ⟨X.S, 8, none⟩ (.int .i64 (b % 8))) { σ1 with fl := some (b / 64, b / 8 % 8, b % 8) } (b / 64, b / 8 % 8, b % 8) c := s2.set 8 _ rfl s2.le s2.lL ⟨s2.vv, s2.sg⟩
    exact ⟨s3, ((k1.trans (kpS X _ _ _)).trans (kpS X _ _ _)).trans (kpS X _ _ _)⟩
  clear h1 k1 cN
  go_wp2
  go_end0
  exact ⟨rfl, Hd.out⟩
theorem rcut_ok (w : World) (X : Cx) (σ : Sg) (f : Int × Int × Int) (c : Int) (h : RSt X w σ f c) (n : Int) (n0 : 0 ≤ n) (n1 : n < 4294967296) :
    Calls Tryz.prog 212 #[.pointer (some ⟨X.S, 0, none⟩), .int .u32 n] w fun e w' => e = .returned (.int .u32 (cutM σ.v n)) ∧ w' = w := by
  have c4 := h.c4
  rcases h.vv with hv | hv
  · rw [hv] at c4 ⊢
    go_enter Tryz.func212, Tryz.ntmps212
    go_wp2
    go_ret
    exact ⟨rfl, rfl⟩
  · rw [hv] at c4 ⊢
    go_enter Tryz.func212, Tryz.ntmps212
    go_wp2
    go_ret
    exact ⟨rfl, rfl⟩
/-- The size of an opcode. -/
def szM (c : Int) (σ : Sg) : Int := if c % 2 = 0 then 1 else σ.v
theorem rsize_ok (w : World) (X : Cx) (σ : Sg) (f : Int × Int × Int) (c : Int) (h : RSt X w σ f c) (c0 : 0 ≤ c) :
    Calls Tryz.prog 209 #[.pointer (some ⟨X.S, 0, none⟩)] w fun e w' => e = .returned (.int .i64 (szM c σ)) ∧ w' = w := by
  have d4 := h.c4
  have d9 := h.c9
  by_cases hc : c % 2 = 0
  · have e : szM c σ = 1 := if_pos hc
    rw [e]
    go_enter Tryz.func209, Tryz.ntmps209
    go_wp2
    go_ret
    exact ⟨rfl, rfl⟩
  · have e : szM c σ = σ.v := if_neg hc
    have hc' : (c % 2 == 0) = false := by simpa using hc
    rw [e]
    go_enter Tryz.func209, Tryz.ntmps209
    go_wp2
    go_ret
    exact ⟨rfl, rfl⟩
theorem rReg_ok (w : World) (r s : Int) :
    Calls Tryz.prog 207 #[.int .i64 r, .int .i64 s] w fun e w' => e = .returned (.agg (regO r s).vals) ∧ Kp noB w w' := by
  go_enter Tryz.func207, Tryz.ntmps207
  go_wp2
  exact bodyPost_ret (v := .agg (regO r s).vals) (by simp [results, Tryz.results207, go_sem]; rfl) rfl ⟨rfl, Kp.alloc _ _ _⟩
theorem rImm_ok (w : World) (n : Int) :
    Calls Tryz.prog 210 #[.int .u32 n] w fun e w' => e = .returned (.agg (numO n).vals) ∧ Kp noB w w' := by
  go_enter Tryz.func210, Tryz.ntmps210
  go_wp2
  exact bodyPost_ret (v := .agg (numO n).vals) (by simp [results, Tryz.results210, go_sem]; rfl) rfl ⟨rfl, Kp.alloc _ _ _⟩
end Go.Proofs.YtbfccfhjgopnbaaGreat
namespace Go.Proofs.YtbfccfhjgopnbaaGreat
open Go.ChangeShapes Go.WideShapes Go.ChangeAt Go.RowKit
set_option linter.unusedVariables false
theorem rbytesM_bd {w : World} {X : Cx} {σ : Sg} {f : Int × Int × Int} {c : Int} (h : RSt X w σ f c) (s : Int) (hs : s = 1 ∨ s = 2 ∨ s = 4) : 0 ≤ (bytesM X s σ).1 ∧ (bytesM X s σ).1 < 256 ^ s.toNat := by
  have := numM_bd (X := X) s.toNat 0 0 σ h.bd h.lL (by omega) (Int.le_refl _) (by decide)
  simpa [bytesM] using this
set_option maxHeartbeats 1000000 in
theorem num_okR (w : World) (X : Cx) (σ : Sg) (f : Int × Int × Int) (c : Int) (h : RSt X w σ f c) (s : Int) (hs : s = 1 ∨ s = 2 ∨ s = 4) :
    Calls Tryz.prog 211 #[.pointer (some ⟨X.S, 0, none⟩), .int .i64 s] w fun e w' => e = .returned (.int .u32 (bytesM X s σ).1) ∧ RDn X w (bytesM X s σ).2 f c w' := by
  obtain ⟨V, hV⟩ : ∃ V, V = bytesM X s σ := ⟨_, rfl⟩
  rw [← hV]
  have hs0 : 0 ≤ s := by omega
  have hs4 : s ≤ 4 := by omega
  have HV : Hid (V = bytesM X s σ) := hV
  have Hs : Hid (s = 1 ∨ s = 2 ∨ s = 4) := hs
  have Hh : Hid (RSt X w σ f c) := h
  clear hV hs h
  go_enter Tryz.func211, Tryz.ntmps211
  go_wp2
  go_loopw [5, 6] (fun vn vi wr => ∃ (i k : Nat) (n : Int) (σ' : Sg), vn = .int .u32 n ∧ vi = .int .i64 i ∧ (i : Int) + k = s ∧ 0 ≤ n ∧ n < 256 ^ i ∧ Hid (V = numM X k i n σ') ∧ Hid (RDn X w σ' f c wr)) (fun _ vi _ => (s - intOf vi).toNat)
  case atStart => exact ⟨0, s.toNat, 0, σ, rfl, rfl, by omega, Int.le_refl _, by decide, HV, ⟨Hh.out, Kp.refl _ _⟩⟩
  case round =>
    obtain ⟨i, k, n, σ', rfl, rfl, hik, n0, n1, hv, hd⟩ := hrel
    by_cases hlt : (i : Int) < s
    · obtain ⟨k', rfl⟩ : ∃ k', k = k' + 1 := ⟨k - 1, by omega⟩
      have hst := hd.out.1
      have cT := next_ok wr X σ' f c hst
      have hbd := rtake_bd hst
      have hi3 : i ≤ 3 := by omega
      have hor := or_up n (take X σ').1 i hi3 n0 n1 hbd.1 hbd.2
      have hv2 : V = numM X k' (i + 1) (n + (take X σ').1 * 256 ^ i) (take X σ').2 := hv.out
      generalize (take X σ').1 = b at *
      generalize (take X σ').2 = σ2 at *
      obtain ⟨b0, b1⟩ := hbd
      obtain ⟨q0, q1, q2⟩ := hor
      have hmax : n + b * 256 ^ i < 4294967296 := by
        have : (256 : Int) ^ (i + 1) ≤ 256 ^ 4 := by
          rcases (by omega : i = 0 ∨ i = 1 ∨ i = 2 ∨ i = 3) with rfl | rfl | rfl | rfl <;> decide
        omega
      have Hq1 : Hid (n + b * 256 ^ i < 256 ^ (i + 1)) := q1
      have Hq2 : Hid (0 ≤ n + b * 256 ^ i) := q2
      have Hv2 : Hid (V = numM X k' (i + 1) (n + b * 256 ^ i) σ2) := hv2
      have Hhd : Hid (RDn X w σ' f c wr) := hd
      clear hv2 hv hd hst q0 q1 q2 n1
      have hii : i = 0 ∨ i = 1 ∨ i = 2 ∨ i = 3 := by omega
      clear hi3
      rcases hii with rfl | rfl | rfl | rfl
      all_goals
        simp at hmax
        go_wp2_with fail
        refine cT.mono ?_; rintro e w1 ⟨rfl, hd1⟩
        have Hd1 : Hid (RDn X w σ2 f c w1) := ⟨hd1.1, Hhd.out.2.trans hd1.2⟩
        clear hd1 cT
        go_wp2
        go_roundw
        case rel =>
          first
            | exact ⟨1, k', _, σ2, rfl, rfl, by omega, Hq2.out, Hq1.out, Hv2, Hd1⟩
            | exact ⟨1, k', _, σ2, by go_num, rfl, by omega, Hq2.out, Hq1.out, Hv2, Hd1⟩
            | exact ⟨2, k', _, σ2, by go_num, rfl, by omega, Hq2.out, Hq1.out, Hv2, Hd1⟩
            | exact ⟨3, k', _, σ2, by go_num, rfl, by omega, Hq2.out, Hq1.out, Hv2, Hd1⟩
            | exact ⟨4, k', _, σ2, by go_num, rfl, by omega, Hq2.out, Hq1.out, Hv2, Hd1⟩
        case measure => simp [intOf]; omega
    · have hk : k = 0 := by omega
      subst hk
      have Hd : Hid _ := hd
      have Hv : Hid (V = (n, σ')) := hv.out
      clear hd hv
      go_wp2
      go_ret
      rw [Hv.out]
      exact ⟨rfl, Hd.out⟩
end Go.Proofs.YtbfccfhjgopnbaaGreat
