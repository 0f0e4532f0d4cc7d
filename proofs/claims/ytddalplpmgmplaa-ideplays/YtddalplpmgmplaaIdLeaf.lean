/- The contracts of the disk's small functions. -/
import Derived.Test.YtddalplpmgmplaaIdBase
import Derived.Lib.EndianBits
import Derived.Deep.QuietTactic
import Derived.BigQuiet
import Derived.BigRegion
namespace Go.Proofs.Ytddalplpmgmplaa
open Go.ChangeShapes Go.WideShapes Go.ChangeAt Go.RowKit
set_option linter.unusedVariables false

theorem iand16' : ∀ n : Fin 256, (bits .and .u8 (n.val : Int) 16 != 0) = ((n.val : Int) / 16 % 2 == 1) := by decide +kernel
theorem iand64' : ∀ n : Fin 256, (bits .and .u8 (n.val : Int) 64 == 0) = !((n.val : Int) / 64 % 2 == 1) := by decide +kernel
theorem iand4' : ∀ n : Fin 256, (bits .and .u8 (n.val : Int) 4 != 0) = ((n.val : Int) / 4 % 2 == 1) := by decide +kernel
theorem iand2' : ∀ n : Fin 256, (bits .and .u8 (n.val : Int) 2 == 0) = !((n.val : Int) / 2 % 2 == 1) := by decide +kernel
theorem iand15' : ∀ n : Fin 256, bits .and .u8 (n.val : Int) 15 = (n.val : Int) % 16 := by decide +kernel
theorem iandn15' : ∀ n : Fin 256, bits .andNot .u8 (n.val : Int) 15 = (n.val : Int) - (n.val : Int) % 16 := by decide +kernel
theorem ior15' : ∀ n m : Fin 16, bits .or .u8 (16 * (n.val : Int)) (m.val : Int) = 16 * (n.val : Int) + (m.val : Int) := by decide +kernel

theorem byFin {p : Int → Prop} (h : ∀ n : Fin 256, p (n.val : Int)) {v : Int} (hv : byt v) : p v := by
  have := h ⟨v.toNat, by have := hv.1; have := hv.2; omega⟩
  simp only [Int.toNat_of_nonneg hv.1] at this
  exact this

theorem iand16 {v : Int} (h : byt v) : (bits .and .u8 v 16 != 0) = (v / 16 % 2 == 1) := byFin (p := fun v => (bits .and .u8 v 16 != 0) = (v / 16 % 2 == 1)) iand16' h
theorem iand64 {v : Int} (h : byt v) : (bits .and .u8 v 64 == 0) = !(v / 64 % 2 == 1) := byFin (p := fun v => (bits .and .u8 v 64 == 0) = !(v / 64 % 2 == 1)) iand64' h
theorem iand4 {v : Int} (h : byt v) : (bits .and .u8 v 4 != 0) = (v / 4 % 2 == 1) := byFin (p := fun v => (bits .and .u8 v 4 != 0) = (v / 4 % 2 == 1)) iand4' h
theorem iand2 {v : Int} (h : byt v) : (bits .and .u8 v 2 == 0) = !(v / 2 % 2 == 1) := byFin (p := fun v => (bits .and .u8 v 2 == 0) = !(v / 2 % 2 == 1)) iand2' h
theorem iand15 {v : Int} (h : byt v) : bits .and .u8 v 15 = v % 16 := byFin (p := fun v => bits .and .u8 v 15 = v % 16) iand15' h
theorem iandn15 {v : Int} (h : byt v) : bits .andNot .u8 v 15 = v - v % 16 := byFin (p := fun v => bits .andNot .u8 v 15 = v - v % 16) iandn15' h
theorem ior15 {v x : Int} (h : byt v) (x0 : 0 ≤ x) (x1 : x < 16) : bits .or .u8 (v - v % 16) x = v - v % 16 + x := by
  have h0 := h.1
  have h1 := h.2
  have := ior15' ⟨(v / 16).toNat, by omega⟩ ⟨x.toNat, by omega⟩
  simp only [Int.toNat_of_nonneg x0, Int.toNat_of_nonneg (show 0 ≤ v / 16 by omega)] at this
  rw [show v - v % 16 = 16 * (v / 16) by omega]
  exact this

theorem wraps62 (n : Int) (h0 : 0 ≤ n) (h1 : n < 2 ^ 62) : IntKind.i64.wrap n = n := by rw [IntKind.wrap_i64]; omega

theorem i64_mask (n : Int) (k m : Nat) (hk : (BitVec.ofInt 64 (m : Int)).toNat = 2 ^ k - 1) (h2 : (2 : Nat) ^ k ≤ 4294967296) (h3 : (2 ^ 64) % (2 : Nat) ^ k = 0) : bits .and .i64 n m = n % ((2 ^ k : Nat) : Int) := by
  have key : (BitVec.ofInt 64 n &&& BitVec.ofInt 64 (m : Int)).toNat = (n % ((2 ^ 64 : Nat) : Int)).toNat % 2 ^ k := by
    rw [BitVec.toNat_and, BitVec.toNat_ofInt, hk, Nat.and_two_pow_sub_one_eq_mod]
  show IntKind.i64.wrap ((BitVec.ofInt 64 n &&& BitVec.ofInt 64 (m : Int)).toNat : Nat) = _
  have hp : 0 < (2 : Nat) ^ k := Nat.two_pow_pos k
  have hm : (n % ((2 ^ 64 : Nat) : Int)).toNat % 2 ^ k < 2 ^ k := Nat.mod_lt _ hp
  rw [key, IntKind.wrap_i64]
  have e : (((n % ((2 ^ 64 : Nat) : Int)).toNat % 2 ^ k : Nat) : Int) = n % ((2 ^ k : Nat) : Int) := by
    rw [Int.natCast_emod, Int.toNat_of_nonneg (Int.emod_nonneg _ (by decide))]
    exact Int.emod_emod_of_dvd n (Int.natCast_dvd_natCast.2 (Nat.dvd_of_mod_eq_zero h3))
  rw [e]
  have b0 : 0 ≤ n % ((2 ^ k : Nat) : Int) := Int.emod_nonneg _ (by omega)
  have b1 : n % ((2 ^ k : Nat) : Int) < ((2 ^ k : Nat) : Int) := Int.emod_lt_of_pos _ (by omega)
  generalize n % ((2 ^ k : Nat) : Int) = r at *
  generalize (2 : Nat) ^ k = p at *
  omega

theorem iand28 (n : Int) : bits .and .i64 n 268435455 = n % 268435456 := i64_mask n 28 268435455 (by decide) (by decide) (by decide)

/-- How much of the buffer is done, where something goes on. -/
def Dn (d : Id) (dn : Int) : Prop := d.mode ≠ 0 → dn = d.don

/-- Behind a call that touches the disk's own block alone. -/
def DOk (w : World) (B : Nat) (sv : Value) (d : Id) (w' : World) : Prop := ∃ dn', IAt w' B dn' sv d ∧ Dn d dn' ∧ Kp (isB B) w w'

section
variable {w : World} {B : Nat} {dn : Int} {sv : Value} {d : Id}

theorem IAt.ok (h : IAt w B dn sv d) (hd : Dn d dn) : DOk w B sv d w := ⟨dn, h, hd, Kp.refl _ _⟩
theorem Dn.none {dn : Int} (e : d.mode = 0) : Dn d dn := fun q => absurd e q
theorem IAt.keep {w' : World} (h : IAt w B dn sv d) (k : Kp noB w w') : IAt w' B dn sv d := h.kept k id (fun _ _ => id)

theorem isOther_any (h : IAt w B dn sv d) (k : d.Ok) : Calls Try.prog 26 #[.pointer (some ⟨B, 0, none⟩)] w fun e w' => e = .returned (.bool d.off) ∧ w' = w := by
  have c6 := h.c6
  have e6 := iand16 k.r6
  clear h k
  unfold Id.off
  go_enter Try.func26, Try.ntmps26
  go_wp2
  go_ret
  exact ⟨ret_bool rfl, rfl⟩

theorem place_any (h : IAt w B dn sv d) (k : d.Ok) : Calls Try.prog 41 #[.pointer (some ⟨B, 0, none⟩)] w fun e w' => e = .returned (.int .i64 d.place) ∧ Kp noB w w' := by
  have c3 := h.c3
  have c4 := h.c4
  have c5 := h.c5
  have c6 := h.c6
  have e6 := iand15 k.r6
  obtain ⟨a0, a1⟩ := k.r3
  obtain ⟨b0, b1⟩ := k.r4
  obtain ⟨f0, f1⟩ := k.r5
  have q0 : 0 ≤ d.r6 % 16 := by omega
  have q1 : d.r6 % 16 < 16 := by omega
  clear h k
  unfold Id.place
  generalize d.r6 % 16 = q at *
  generalize d.r3 = a at *
  generalize d.r4 = b at *
  generalize d.r5 = f at *
  have e1 : bits .or .i64 a (b * 256) = a + b * 256 := bits_join_low .i64 62 (by decide) wraps62 8 a (b * 256) (by omega) (by omega) (by omega) (by omega) (by omega) (by omega)
  have e2 : bits .or .i64 (a + b * 256) (f * 65536) = a + b * 256 + f * 65536 := bits_join_low .i64 62 (by decide) wraps62 16 _ _ (by omega) (by omega) (by omega) (by omega) (by omega) (by omega)
  have e3 : bits .or .i64 (a + b * 256 + f * 65536) (q * 16777216) = a + b * 256 + f * 65536 + q * 16777216 := bits_join_low .i64 62 (by decide) wraps62 24 _ _ (by omega) (by omega) (by omega) (by omega) (by omega) (by omega)
  go_enter Try.func41, Try.ntmps41
  go_wp2
  go_quiet (fail)
  go_wp2
  go_ret
  exact ⟨rfl, (Kp.refl _ _).drewN _⟩

theorem fail_ok (h : IAt w B dn sv d) (x : Int) (hx : x = 4 ∨ x = 16) : Calls Try.prog 33 #[.pointer (some ⟨B, 0, none⟩), .int .u8 x] w fun e w' => e = .returned (.tuple #[]) ∧ DOk w B sv (d.fail x) w' := by
  have c1 := h.c1
  have cg := h.cgo
  have cm := h.cmk
  have z1 := h.fz 32770
  have z2 := h.fz 33291
  have z3 := h.fz 33292
  have H : Hid (DOk w B sv (d.fail x) (((w.setCell ⟨B, 32770, none⟩ (.int .u8 x)).setCell ⟨B, 33291, none⟩ (.int .i64 0)).setCell ⟨B, 33292, none⟩ (.bool true))) := by
    refine ⟨dn, (((h.raw.setR 1 (by decide) 32770 rfl x).setgo 0).setmk true).id (d.fail x) rfl rfl rfl ?_ rfl rfl rfl ?_, Dn.none rfl, ((kpB B _ _ _).trans (kpB B _ _ _)).trans (kpB B _ _ _)⟩
    · exact (reg_1 (d := { d with failed := true, mode := 0, mark := true }) x).symm
    · show true = decide (x ≠ 0 ∧ x ≠ 1)
      rcases hx with rfl | rfl <;> rfl
  clear h
  go_enter Try.func33, Try.ntmps33
  go_wp2
  go_end0
  exact ⟨rfl, H.out⟩

theorem setPlace_ok (h : IAt w B dn sv d) (k : d.Ok) (n : Int) (n0 : 0 ≤ n) (n1 : n < 268435456) : Calls Try.prog 45 #[.pointer (some ⟨B, 0, none⟩), .int .i64 n] w fun e w' => e = .returned (.tuple #[]) ∧ IAt w' B dn sv { d with r3 := n % 256, r4 := n / 256 % 256, r5 := n / 65536 % 256, r6 := d.r6 - d.r6 % 16 + n / 16777216 } ∧ Kp (isB B) w w' := by
  have c3 := h.c3
  have c4 := h.c4
  have c5 := h.c5
  have c6 := h.c6
  have z3 := h.fz 32772
  have z4 := h.fz 32773
  have z5 := h.fz 32774
  have z6 := h.fz 32775
  have e1 := iandn15 k.r6
  have e3 := ior15 k.r6 (x := n / 16777216) (by omega) (by omega)
  obtain ⟨w2, hw⟩ : ∃ w2, w2 = (((w.setCell ⟨B, 32772, none⟩ (.int .u8 (n % 256))).setCell ⟨B, 32773, none⟩ (.int .u8 (n / 256 % 256))).setCell ⟨B, 32774, none⟩ (.int .u8 (n / 65536 % 256))).setCell ⟨B, 32775, none⟩ (.int .u8 (d.r6 - d.r6 % 16 + n / 16777216)) := ⟨_, rfl⟩
  have H : IAt w2 B dn sv { d with r3 := n % 256, r4 := n / 256 % 256, r5 := n / 65536 % 256, r6 := d.r6 - d.r6 % 16 + n / 16777216 } := by
    rw [hw]
    refine ((((h.raw.setR 3 (by decide) 32772 rfl _).setR 4 (by decide) 32773 rfl _).setR 5 (by decide) 32774 rfl _).setR 6 (by decide) 32775 rfl _).id _ rfl rfl rfl ?_ rfl rfl rfl h.fl
    exact ((reg_6 (d := { d with r3 := n % 256, r4 := n / 256 % 256, r5 := n / 65536 % 256 }) _).trans (congrArg (fun f => setB f 6 _) ((reg_5 (d := { d with r3 := n % 256, r4 := n / 256 % 256 }) _).trans (congrArg (fun f => setB f 5 _) ((reg_4 (d := { d with r3 := n % 256 }) _).trans (congrArg (fun f => setB f 4 _) (reg_3 (d := d) _))))))).symm
  have hk : Kp (isB B) w w2 := by
    rw [hw]
    exact (((kpB B _ _ _).trans (kpB B _ _ _)).trans (kpB B _ _ _)).trans (kpB B _ _ _)
  have HH : Hid (IAt w2.drew B dn sv { d with r3 := n % 256, r4 := n / 256 % 256, r5 := n / 65536 % 256, r6 := d.r6 - d.r6 % 16 + n / 16777216 } ∧ Kp (isB B) w w2.drew) := ⟨H.keep (Kp.refl _ _).drew, hk.drew⟩
  rw [hw] at HH
  clear h k H hk hw
  go_enter Try.func45, Try.ntmps45
  go_wp2
  go_region
  go_wp2
  go_end0
  exact ⟨rfl, HH.out⟩

theorem reg_start (d : Id) : setB (setB (setB (setB (setB (setB (setB (setB (setB d.reg 0 0) 1 1) 2 1) 3 1) 4 0) 5 0) 6 0) 7 0) 8 0 = ({ d with c := 0 } : Id).fresh.reg := by
  funext j
  rcases (by omega : j = 0 ∨ j = 1 ∨ j = 2 ∨ j = 3 ∨ j = 4 ∨ j = 5 ∨ j = 6 ∨ j = 7 ∨ j = 8 ∨ 9 ≤ j) with rfl | rfl | rfl | rfl | rfl | rfl | rfl | rfl | rfl | h
  · rfl
  · rfl
  · rfl
  · rfl
  · rfl
  · rfl
  · rfl
  · rfl
  · rfl
  · have n0 : j ≠ 0 := by omega
    have n1 : j ≠ 1 := by omega
    have n2 : j ≠ 2 := by omega
    have n3 : j ≠ 3 := by omega
    have n4 : j ≠ 4 := by omega
    have n5 : j ≠ 5 := by omega
    have n6 : j ≠ 6 := by omega
    have n7 : j ≠ 7 := by omega
    have n8 : j ≠ 8 := by omega
    simp only [setB, Id.reg, Id.fresh, if_neg n0, if_neg n1, if_neg n2, if_neg n3, if_neg n4, if_neg n5, if_neg n6, if_neg n7, if_neg n8]

theorem start_ok (h : IAt w B dn sv d) : Calls Try.prog 18 #[.pointer (some ⟨B, 0, none⟩)] w fun e w' => e = .returned (.tuple #[]) ∧ DOk w B sv ({ d with c := 0 } : Id).fresh w' := by
  have c0 : w.cell? ⟨B, 32769, none⟩ = some (.int .u8 0) := h.cr 0 (by decide)
  have c1 := h.c1
  have c2 := h.c2
  have c3 := h.c3
  have c4 := h.c4
  have c5 := h.c5
  have c6 := h.c6
  have c7 : w.cell? ⟨B, 32776, none⟩ = some (.int .u8 0) := h.cr 7 (by decide)
  have c8 := h.c8
  have cg := h.cgo
  have cm := h.cmk
  have y0 := h.fz 32769
  have y1 := h.fz 32770
  have y2 := h.fz 32771
  have y3 := h.fz 32772
  have y4 := h.fz 32773
  have y5 := h.fz 32774
  have y6 := h.fz 32775
  have y7 := h.fz 32776
  have y8 := h.fz 32777
  have y9 := h.fz 33291
  have ya := h.fz 33292
  have hC : Hid (IAt w B dn sv d) := h
  clear h
  go_enter Try.func18, Try.ntmps18
  go_wp2
  go_end0
  refine ⟨rfl, dn, ?_, Dn.none rfl, ?_⟩
  · refine (((((((((((hC.out.raw.setR 0 (by decide) 32769 rfl 0).setR 1 (by decide) 32770 rfl 1).setR 2 (by decide) 32771 rfl 1).setR 3 (by decide) 32772 rfl 1).setR 4 (by decide) 32773 rfl 0).setR 5 (by decide) 32774 rfl 0).setR 6 (by decide) 32775 rfl 0).setR 7 (by decide) 32776 rfl 0).setR 8 (by decide) 32777 rfl 0).setgo 0).setmk false).id _ rfl rfl rfl ?_ rfl rfl rfl rfl
    exact reg_start d
  · exact (((((((((((kpB B _ _ _).trans (kpB B _ _ _)).trans (kpB B _ _ _)).trans (kpB B _ _ _)).trans (kpB B _ _ _)).trans (kpB B _ _ _)).trans (kpB B _ _ _)).trans (kpB B _ _ _)).trans (kpB B _ _ _)).trans (kpB B _ _ _)).trans (kpB B _ _ _))

theorem howItIs_any (h : IAt w B dn sv d) (k : d.Ok) : Calls Try.prog 28 #[.pointer (some ⟨B, 0, none⟩)] w fun e w' => e = .returned (.int .u32 d.status) ∧ w' = w := by
  have c1 := h.c1
  have cg := h.cgo
  have hf := h.fl
  have km := k.mode
  clear h k
  unfold Id.status
  have o1 : bits .or .u32 80 8 = 88 := by decide
  have o2 : bits .or .u32 88 1 = 89 := by decide
  have o3 : bits .or .u32 80 1 = 81 := by decide
  by_cases a : d.r1 = 0
  · have hf' : d.failed = false := by rw [hf]; simp [a]
    rw [a] at c1
    rw [hf']
    clear hf a hf'
    rcases km with m | m | m | m <;> rw [m] at cg ⊢ <;> clear m
    all_goals
      unfold goV at cg
      simp only [Int.reduceEq, if_false, if_true] at cg
      go_enter Try.func28, Try.ntmps28
      go_wp2
      go_ret
      exact ⟨rfl, rfl⟩
  · have a' : (d.r1 == 0) = false := by simpa using a
    by_cases b : d.r1 = 1
    · have hf' : d.failed = false := by rw [hf]; simp [b]
      rw [b] at c1
      rw [hf']
      clear hf a a' b hf'
      rcases km with m | m | m | m <;> rw [m] at cg ⊢ <;> clear m
      all_goals
        unfold goV at cg
        simp only [Int.reduceEq, if_false, if_true] at cg
        go_enter Try.func28, Try.ntmps28
        go_wp2
        go_ret
        exact ⟨rfl, rfl⟩
    · have b' : (d.r1 == 1) = false := by simpa using b
      have hf' : d.failed = true := by rw [hf]; simp [a, b]
      have a2 : (d.r1 != 0) = true := by simpa using a
      have b2 : (d.r1 != 1) = true := by simpa using b
      rw [hf']
      clear hf hf' a b
      rcases km with m | m | m | m <;> rw [m] at cg ⊢ <;> clear m
      all_goals
        unfold goV at cg
        simp only [Int.reduceEq, if_false, if_true] at cg
        go_enter Try.func28, Try.ntmps28
        go_wp2
        go_ret
        exact ⟨rfl, rfl⟩
end
end Go.Proofs.Ytddalplpmgmplaa
