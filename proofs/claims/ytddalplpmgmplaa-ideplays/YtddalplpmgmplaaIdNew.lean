/- The contracts of New and Disk. -/
import Derived.Test.YtddalplpmgmplaaIdOps2
import Derived.Laws.MakeOwn
import Derived.Laws.IdiomCopy
namespace Go.Proofs.Ytddalplpmgmplaa
open Go.ChangeShapes Go.WideShapes Go.ChangeAt Go.RowKit
set_option linter.unusedVariables false

theorem info8 : (Try.prog.info? 5).map (fun i => (i.zero, i.size, i.bytes)) = some (some (.int .u8 0), 1, 1) := by kernel_rfl

theorem info_of {t : TypeId} {z : Value} {s b : Nat} (h : (Try.prog.info? t).map (fun i => (i.zero, i.size, i.bytes)) = some (some z, s, b)) : ∃ i, Try.prog.info? t = some i ∧ i.zero = some z ∧ i.size = s ∧ i.bytes = b := by
  cases hi : Try.prog.info? t with
  | none => rw [hi] at h; cases h
  | some i =>
    rw [hi] at h
    simp only [Option.map_some, Option.some.injEq, Prod.mk.injEq] at h
    exact ⟨i, rfl, h.1, h.2.1, h.2.2⟩

def made8 (n : Nat) : Array Value := madeCells (Value.int .u8 0).cells n

theorem made8_at (n : Nat) : (made8 n).size = n ∧ ∀ j, j < n → (made8 n)[j]? = some (.int .u8 0) := by
  unfold made8
  rw [show (Value.int .u8 0).cells = #[Value.int .u8 0] from rfl]
  refine ⟨by simp [madeCells], fun j hj => by simp [madeCells, hj, Nat.mod_one]⟩

theorem make8 (w : World) (n : Nat) (h : n ≤ 2147483647) : (Instr.makeSlice 22 (.int .i64 n) (.int .i64 n)).run Try.prog w = .ok (.slice (some ⟨w.heap.size, 0, none⟩) n n) (w.alloc (.cells (made8 n) 5)) := by
  obtain ⟨i0, hi, hz0, hz1, hz2⟩ := info_of info8
  have r := run_make (P := Try.prog) w 22 5 i0 (.int .u8 0) bytesT hi hz0 .i64 .i64 n n (by omega) (Int.le_refl _) (by rw [hz2]; omega) (by omega)
  rw [Int.toNat_natCast, hz1, Nat.mul_one] at r
  exact r

/-- Bytes from a place on. -/
def BytAt (w : World) (a : Option Addr) (L : Nat) (bt : Nat → Int) : Prop := ∀ j, j < L → ∃ b o, a = some ⟨b, o, none⟩ ∧ b < w.heap.size ∧ w.cell? ⟨b, o + j, none⟩ = some (.int .u8 (bt j))

theorem BytAt.kept {S : Nat → Prop} {w w' : World} {a : Option Addr} {L : Nat} {bt : Nat → Int} (h : BytAt w a L bt) (k : Kp S w w') (hS : ∀ b, b < w.heap.size → ¬ S b) : BytAt w' a L bt := fun j hj => by
  obtain ⟨b, o, e, hb, hc⟩ := h j hj
  exact ⟨b, o, e, Nat.lt_of_lt_of_le hb k.size, cell_kept hc k (hS b hb)⟩

/-- A copy of bytes that lie somewhere. -/
theorem copy_byt (w : World) (S o dLen dCap L c : Nat) (a : Option Addr) (bt : Nat → Int) (hb : BytAt w a L bt) (n : Nat) (hn : n = Nat.min L dLen) (cur : Array Value) (t : TypeId) (hS : w.heap[S]? = some (.cells cur t (0, 0))) (ho : o + n ≤ cur.size) :
    ∃ w2, (Builtin.copy_ #[22, 22] 3 #[.slice (some ⟨S, o, none⟩) dLen dCap, .slice a L c]).run Try.prog w = .ok (.int .i64 n) w2 ∧
      (∃ cur', w2.heap[S]? = some (.cells cur' t (0, 0)) ∧ Laid cur cur' o n (fun j => .int .u8 (bt j))) ∧ Kp (isB S) w w2 := by
  by_cases h0 : n = 0
  · subst h0
    exact ⟨w, run_copy_none (P := Try.prog) w 22 22 3 5 _ a dLen dCap L c bytesT byteT hn.symm, ⟨cur, hS, Laid.none _ _ _⟩, Kp.refl _ _⟩
  · have hle : n ≤ L := by rw [hn]; exact Nat.min_le_left _ _
    obtain ⟨b, q, rfl, _, _⟩ := hb 0 (by omega)
    refine copy_any w S o dLen dCap b q L c n hn cur t hS ho bt (fun j hj => ?_)
    obtain ⟨b', q', e, _, hc⟩ := hb j (by omega)
    injection e with e
    injection e with e1 e2
    subst e1; subst e2
    exact hc

theorem zeroI (w : World) : (zeroValue 51).run Try.prog w = .ok (.agg zI) w := by
  simp [zeroValue, typeInfo, show Try.prog.info? 51 = some Try.t51 from Try.type51, zero57, zI]

theorem placesI : ∃ fs ps, (∀ w, (underlying 51).run Try.prog w = .ok (.struct fs) w) ∧ (∀ w, (Array.mapM (fun f : Field => Prod.mk f.offset <$> sizeOf f.type) fs).run Try.prog w = .ok ps w) ∧ ps[1]? = some (32768, 1) :=
  ⟨(match Try.prog.underlying 51 with | some (.struct f) => f | _ => #[]), #[(0, 32768), (32768, 1), (32769, 9), (32778, 512), (33290, 1), (33291, 1), (33292, 1), (33293, 1)], fun w => by kernel_rfl, fun w => by kernel_rfl, rfl⟩

/-- A whole new disk: the type's number is a letter, and its noughts. -/
structure VlI (T : TypeId) (Z : Array Value) (fs : Array Field) (ps : Array (Nat × Nat)) : Prop where
  t : T = 51
  z : Z = zI
  zero : ∀ w, (zeroValue T).run Try.prog w = .ok (.agg Z) w
  under : ∀ w, (underlying T).run Try.prog w = .ok (.struct fs) w
  map : ∀ w, (Array.mapM (fun f : Field => Prod.mk f.offset <$> sizeOf f.type) fs).run Try.prog w = .ok ps w
  place : ps[1]? = some (32768, 1)
  zs : Z.size = 33294

theorem vlI : ∃ T Z fs ps, VlI T Z fs ps := by
  obtain ⟨fs, ps, h1, h2, h3⟩ := placesI
  exact ⟨_, _, fs, ps, rfl, rfl, zeroI, h1, h2, h3, zI_size⟩

theorem VlI.ops {T : TypeId} {Z : Array Value} {fs : Array Field} {ps : Array (Nat × Nat)} (h : VlI T Z fs ps) : (∀ x, Op.build 51 x = Op.build T x) ∧ (∀ x, Op.box 51 x = Op.box T x) := by
  rw [h.t]
  exact ⟨fun _ => rfl, fun _ => rfl⟩

theorem new_raw {T : TypeId} {Z : Array Value} {fs : Array Field} {ps : Array (Nat × Nat)} (V : VlI T Z fs ps) (w : World) (n : Nat) : Raw (w.alloc (.cells (Z.setIfInBounds 32768 (.int .i64 n)) T)) w.heap.size (.slice none 0 0) [] (fun _ => 0) n (fun _ => 0) (fun _ => 0) 0 0 false := by
  refine ⟨⟨_, by rw [heap_new, V.t], ?_, fun k hk => ?_⟩, OwnI.nil _⟩
  · rw [Array.size_setIfInBounds, V.z, zI_size]
  · rw [V.z, Array.getElem?_setIfInBounds]
    by_cases e : 32768 = k
    · subst e
      rw [if_pos rfl, if_pos (by rw [zI_size]; decide)]
      rfl
    · rw [if_neg e, zI_get hk]
      have e' : ¬ k = 32768 := fun g => e g.symm
      unfold cC
      simp only [if_neg e']

/-- The bytes of a new disk. -/
def dB (L : Nat) (bt : Nat → Int) (i : Nat) : Int := if i < L then bt i else 0

theorem new_no (w : World) (a : Option Addr) (L c : Nat) (h : L % 512 ≠ 0 ∨ 32768 < L) (hL : L < 9223372036854775808) : Calls Try.prog 5 #[.slice a L c] w fun e w' => e = .returned (.tuple #[.pointer none, .int .i64 140]) ∧ w' = w := by
  by_cases q : L % 512 = 0
  · have q1 : ((L : Int) % 512 != 0) = false := by rw [bne_eq_false_iff_eq]; omega
    have q2 : decide ((L : Int) > 32768) = true := by simp; omega
    go_enter Try.func5, Try.ntmps5
    go_wp2
    go_ret2
    exact ⟨rfl, rfl⟩
  · have q1 : ((L : Int) % 512 != 0) = true := by rw [bne_iff_ne]; omega
    go_enter Try.func5, Try.ntmps5
    go_wp2
    go_ret2
    exact ⟨rfl, rfl⟩

theorem id0_reg (n : Nat) (D : Nat → Int) : ((id0 n D) : Id).fresh = id0 n D := rfl

/-- A new disk, wherever it lies. -/
def NewPost (w : World) (L : Nat) (bt : Nat → Int) (w' : World) : Prop := ∃ dn, IAt w' w.heap.size dn (.slice none 0 0) (id0 (L / 512) (dB L bt)) ∧ Kp noB w w'

theorem new_ok (w : World) (a : Option Addr) (L c : Nat) (bt : Nat → Int) (hb : BytAt w a L bt) (h1 : L % 512 = 0) (h2 : L ≤ 32768) : Calls Try.prog 5 #[.slice a L c] w fun e w' => e = .returned (.tuple #[.pointer (some ⟨w.heap.size, 0, none⟩), .int .i64 0]) ∧ NewPost w L bt w' := by
  obtain ⟨T, Z, fs, ps, V⟩ := vlI
  have q1 : ((L : Int) % 512 != 0) = false := by rw [bne_eq_false_iff_eq]; omega
  have q2 : decide ((L : Int) > 32768) = false := by simp; omega
  have q3 : (L : Int) / 512 = ((L / 512 : Nat) : Int) := by omega
  obtain ⟨N, hN⟩ : ∃ N, N = L / 512 := ⟨_, rfl⟩
  rw [← hN] at q3
  have r0 := new_raw V w N
  obtain ⟨w1, e1⟩ : ∃ w1, w1 = w.alloc (.cells (Z.setIfInBounds 32768 (.int .i64 N)) T) := ⟨_, rfl⟩
  have k1 : Kp noB w w1 := by rw [e1]; exact Kp.alloc _ _ _
  rw [← e1] at r0
  obtain ⟨cur, g1, g2, g3⟩ := r0.blk
  obtain ⟨w2, hcp, ⟨cur2, hh2, hl2⟩, hk2⟩ := copy_byt w1 w.heap.size 0 32768 32768 L c a bt (hb.kept k1 (fun _ _ => id)) L (Nat.min_eq_left h2).symm cur _ g1 (by omega)
  have r2 := r0.laydisk g1 hh2 (by omega) hl2 hk2
  have h3 : IAt w2 w.heap.size 0 (.slice none 0 0) { id0 N (dB L bt) with r1 := 0, r2 := 0, r3 := 0 } := by
    refine ⟨r2.blk.of fun k hk => ?_, r2.log, rfl⟩
    have hD : layB (fun _ => 0) 0 L bt = dB L bt := by
      funext i
      unfold layB dB
      by_cases q : i < L
      · rw [if_pos (by omega), if_pos q, Nat.sub_zero]
      · rw [if_neg (by omega), if_neg q]
    rw [hD]
    unfold fC
    have hR : (fun _ : Nat => (0 : Int)) = ({ id0 N (dB L bt) with r1 := 0, r2 := 0, r3 := 0 } : Id).reg := by
      funext j
      unfold Id.reg id0
      simp only
      repeat' split
      all_goals rfl
    rw [← hR]
    rfl
  have HS : Hid _ := start_ok h3
  have ef : ({ ({ id0 N (dB L bt) with r1 := 0, r2 := 0, r3 := 0 } : Id) with c := 0 } : Id).fresh = id0 N (dB L bt) := rfl
  rw [ef] at HS
  have HF : Hid (∀ w3, DOk w2 w.heap.size (.slice none 0 0) (id0 N (dB L bt)) w3 → NewPost w L bt w3) := by
    rintro w3 ⟨dn, h4, d4, k4⟩
    unfold NewPost
    rw [← hN]
    exact ⟨dn, h4, (k1.over hk2 (fun j hj (e : j = _) => by omega)).over k4 (fun j hj (e : j = _) => by omega)⟩
  have o1 := V.ops
  have v1 := V.zero
  have v2 := V.under
  have v3 := V.map
  have v4 := V.place
  have v5 := V.zs
  have v6 : wrap64 (N : Int) = N := IntWalk.wrap64_in _ ⟨by omega, by omega⟩
  rw [e1] at hcp
  clear r0 g1 g2 g3 hh2 hl2 hk2 r2 h3 ef k1 V hb h1 h2 e1 hN
  go_enter Try.func5, Try.ntmps5
  simp only [o1.1, o1.2]
  go_wp2_with fail
  refine Calls.mono HS.out ?_; rintro e w3 ⟨rfl, h3⟩
  have H : Hid (NewPost w L bt w3) := HF.out _ h3
  clear h3 HS HF hcp
  go_wp2
  go_ret2
  exact ⟨rfl, H.out⟩

/-- All bytes, in a block of their own. -/
def DskPost (w : World) (d : Id) (w' : World) : Prop := BytAt w' (some ⟨w.heap.size, 0, none⟩) (512 * d.n) d.D ∧ Kp noB w w' ∧ ∃ cur, w'.heap[w.heap.size]? = some (.cells cur 5 (0, 0)) ∧ cur.size = 512 * d.n

theorem disk_ok {w : World} {B : Nat} {dn : Int} {sv : Value} {d : Id} (h : IAt w B dn sv d) (k : d.Ok) : Calls Try.prog 16 #[.pointer (some ⟨B, 0, none⟩)] w fun e w' => e = .returned (.slice (some ⟨w.heap.size, 0, none⟩) (512 * d.n) (512 * d.n)) ∧ DskPost w d w' := by
  have hf := k.few
  have cn := h.cn
  have hm := make8 w (512 * d.n) (by omega)
  obtain ⟨w1, e1⟩ : ∃ w1, w1 = w.alloc (.cells (made8 (512 * d.n)) 5) := ⟨_, rfl⟩
  have k1 : Kp noB w w1 := by rw [e1]; exact Kp.alloc _ _ _
  have hq : w1.heap[w.heap.size]? = some (.cells (made8 (512 * d.n)) 5 (0, 0)) := by rw [e1]; exact heap_new _ _
  have hz := (made8_at (512 * d.n)).1
  have h1 := h.keep k1
  obtain ⟨w2, hcp, ⟨cur2, hh2, hl2⟩, hk2⟩ := copy_any w1 w.heap.size 0 (512 * d.n) (512 * d.n) B 0 32768 32768 (512 * d.n) (Nat.min_eq_right (by omega)).symm _ _ hq (by omega) d.D (fun j hj => by
    rw [Nat.zero_add]
    exact h1.cD j (by omega))
  have H : Hid (DskPost w d w2) := by
    refine ⟨fun j hj => ⟨w.heap.size, 0, rfl, heap_lt hh2, ?_⟩, k1.over hk2 (fun j hj (e : j = _) => by omega), cur2, hh2, by rw [hl2.1, hz]⟩
    rw [cell_at hh2, hl2.2, if_pos (by omega), Nat.zero_add, Nat.sub_zero]
  rw [← e1] at hm
  have em : ((512 * d.n : Nat) : Int) = (d.n : Int) * 512 := by omega
  rw [em] at hm
  clear h k k1 hq hz h1 hh2 hl2 hk2 e1
  generalize hnn : d.n = n at *
  have hw : IntKind.i64.wrap ((n : Int) * 512) = (n : Int) * 512 := by rw [IntKind.wrap_i64]; omega
  go_enter Try.func16, Try.ntmps16
  go_wp2
  go_ret
  exact ⟨rfl, H.out⟩
end Go.Proofs.Ytddalplpmgmplaa
