/- The bus and its devices: IdW, IdDisk, IdOpen, IdFacts, IdStr, IdSt, IdSame, IxBase, IxLeaf, IxPut, IxOut, IxNew. -/
import Derived.Test.YtclejmdmbanedaaGreatBp12
import Derived.Test.YtclejmdmbanedaaGreatRows
import Derived.WalkKit
import Derived.ProofKit
import Derived.OpenShut
import Derived.Carry
import Derived.Deep.Slices
import Derived.Below
import Derived.SizedLaws
import Derived.Test.YtclejmdmbanedaaGreatBp10
import Derived.Laws.BytesArg
import Derived.Deep.Cut
namespace Go.Proofs.YtclejmdmbanedaaGreat.Dk
open Go.ChangeShapes Go.WideShapes Go.ChangeAt Go.RowKit
set_option linter.unusedVariables false
set_option maxRecDepth 20000
/-- What a register and a size are answered. -/
def ck (reg size : Int) : Int := if reg < 0 ∨ 9 ≤ reg then 1 else if reg = 0 ∧ size ≠ 1 ∧ size ≠ 2 ∧ size ≠ 4 then 2 else 0
theorem chk_ck (a : Addr) (reg size : Int) : chkV (some a) reg size = ck reg size := by
  unfold chkV ck
  simp
/-- Out and In, with what is refused. -/
def Id.o (d : Id) (reg size v : Int) : Id := if ck reg size = 0 then d.out reg size.toNat v else d
def Id.iV (d : Id) (reg size : Int) : Int := if ck reg size = 0 then d.inV reg size.toNat else 0
def Id.i (d : Id) (reg size : Int) : Id := if ck reg size = 0 then d.inn reg size.toNat else d
theorem Id.Ok.o {d : Id} (k : d.Ok) (reg size v : Int) : (d.o reg size v).Ok := by
  unfold Id.o
  split
  · exact k.out _ _ _
  · exact k
theorem Id.Ok.i {d : Id} (k : d.Ok) (reg size : Int) : (d.i reg size).Ok := by
  unfold Id.i
  split
  · exact k.inn _ _
  · exact k
theorem size_4 {reg size : Int} (h : ck reg size = 0) (d : Id) (k : d.Ok) (v : Int) : (d.out reg size.toNat v).work ≤ d.work + 4 := by
  by_cases e : reg = 0
  · subst e
    have hs : size = 1 ∨ size = 2 ∨ size = 4 := by
      unfold ck at h
      rw [if_neg (by omega)] at h
      split at h
      · cases h
      · omega
    have := out_work d k 0 size.toNat v
    omega
  · have := out_work d k reg 0 v
    have e2 : d.out reg size.toNat v = d.out reg 0 v := by unfold Id.out; rw [if_neg e, if_neg e]
    rw [e2]
    omega
theorem o_work {d : Id} (k : d.Ok) (reg size v : Int) : (d.o reg size v).work ≤ d.work + 4 := by
  unfold Id.o
  split
  · exact size_4 ‹_› d k v
  · omega
theorem i_work (d : Id) (reg size : Int) : (d.i reg size).work ≤ d.work := by
  unfold Id.i
  split
  · exact inn_work d _ _
  · omega
/-- From S to S': nothing outside S was touched, what is new in S' was not there. -/
structure Nxt (w : World) (S : Nat → Prop) (w' : World) (S' : Nat → Prop) : Prop where
  sub : ∀ k, S' k → S k ∨ w.heap.size ≤ k
  kp : Kp S w w'
theorem Nxt.trans {a b c : World} {S T U : Nat → Prop} (h : Nxt a S b T) (k : Nxt b T c U) : Nxt a S c U :=
  ⟨fun j hj => by
    rcases k.sub j hj with g | g
    · exact h.sub j g
    · exact .inr (Nat.le_trans h.kp.size g), h.kp.over k.kp fun j hj g => by
    rcases h.sub j g with e | e
    · exact e
    · omega⟩
theorem Nxt.refl (w : World) (S : Nat → Prop) : Nxt w S w S := ⟨fun _ f => .inl f, Kp.refl _ _⟩
/-- A disk whose blocks all lie in S. -/
structure IW (w : World) (S : Nat → Prop) (B : Nat) (d : Id) : Prop where
  ex : ∃ dn sv, IAt w B dn sv d ∧ Dn d dn ∧ ∀ k, foot B sv k → S k
  lt : ∀ k, S k → k < w.heap.size
theorem IW.kept {w w' : World} {S T : Nat → Prop} {B : Nat} {d : Id} (h : IW w S B d) (k : Kp T w w') (hS : ∀ k, S k → ¬ T k) : IW w' S B d := by
  obtain ⟨dn, sv, h1, hd, h2⟩ := h.ex
  exact ⟨⟨dn, sv, h1.kept k (hS _ (h2 _ (.inl rfl))) (fun g e => hS _ (h2 _ (.inr e))), hd, h2⟩, fun j hj => Nat.lt_of_lt_of_le (h.lt j hj) k.size⟩
theorem IW.keep {w w' : World} {S : Nat → Prop} {B : Nat} {d : Id} (h : IW w S B d) (k : Kp noB w w') : IW w' S B d := h.kept k (fun _ _ => id)
def INx (w : World) (S : Nat → Prop) (B : Nat) (d : Id) (w' : World) : Prop := ∃ S', IW w' S' B d ∧ Nxt w S w' S'
/-- All of S is new since W. -/
structure Bs (W w : World) (S : Nat → Prop) : Prop where
  new : ∀ k, S k → W.heap.size ≤ k
  kp : Kp noB W w
theorem Bs.next {W w w' : World} {S S' : Nat → Prop} (h : Bs W w S) (n : Nxt w S w' S') : Bs W w' S' :=
  ⟨fun k hk => by
    rcases n.sub k hk with g | g
    · exact h.new k g
    · exact Nat.le_trans h.kp.size g, h.kp.over n.kp (fun j hj g => by have := h.new j g; omega)⟩
theorem Bs.keep {W w w' : World} {S : Nat → Prop} (h : Bs W w S) (k : Kp noB w w') : Bs W w' S := ⟨h.new, h.kp.trans k⟩
/-- A block that lies aside. -/
structure Far (w : World) (S : Nat → Prop) (b : Nat) : Prop where
  lt : b < w.heap.size
  out : ¬ S b
theorem Far.next {w w' : World} {S S' : Nat → Prop} {b : Nat} (h : Far w S b) (n : Nxt w S w' S') : Far w' S' b :=
  ⟨Nat.lt_of_lt_of_le h.lt n.kp.size, fun g => by
    rcases n.sub b g with e | e
    · exact h.out e
    · have := h.lt; omega⟩
theorem Far.keep {w w' : World} {S T : Nat → Prop} {b : Nat} (h : Far w S b) (k : Kp T w w') : Far w' S b := ⟨Nat.lt_of_lt_of_le h.lt k.size, h.out⟩
theorem Far.heap {w w' : World} {S S' : Nat → Prop} {b : Nat} {o : Obj} (h : Far w S b) (n : Nxt w S w' S') (g : w.heap[b]? = some o) : w'.heap[b]? = some o := heap_kept g n.kp h.out
/-- Ints that lie aside. -/
structure AsideI (w : World) (S : Nat → Prop) (v : Value) (l : List Int) : Prop where
  own : OwnI w v l
  out : ∀ g, v.ownBlock = some g → ¬ S g
theorem AsideI.next {w w' : World} {S S' : Nat → Prop} {v : Value} {l : List Int} (h : AsideI w S v l) (n : Nxt w S w' S') : AsideI w' S' v l :=
  ⟨h.own.kept n.kp h.out, fun g e gS => by
    rcases n.sub g gS with f | f
    · exact h.out g e f
    · obtain ⟨cur, hc⟩ := h.own.lt e
      have := heap_lt hc
      omega⟩
section
variable {w : World} {S : Nat → Prop} {B : Nat} {d : Id}
theorem foot_lt {dn : Int} {sv : Value} (h : IAt w B dn sv d) {k : Nat} (g : foot B sv k) : k < w.heap.size := by
  rcases g with rfl | g
  · exact h.lt
  · obtain ⟨cur, e⟩ := h.log.lt g
    exact heap_lt e
theorem INx.mk {w' : World} {dn' : Int} {sv' : Value} {d' : Id} (h' : IAt w' B dn' sv' d') (hd : Dn d' dn') (hf : ∀ k, foot B sv' k → S k ∨ w.heap.size ≤ k) (kp : Kp S w w') : INx w S B d' w' :=
  ⟨fun k => k < w'.heap.size ∧ (S k ∨ w.heap.size ≤ k), ⟨⟨dn', sv', h', hd, fun k g => ⟨foot_lt h' g, hf k g⟩⟩, fun k g => g.1⟩, ⟨fun k g => g.2, kp⟩⟩
theorem INx.same {w' : World} (h : IW w S B d) (e : w' = w) : INx w S B d w' := by
  subst e
  exact ⟨S, h, Nxt.refl _ _⟩
theorem wOut (h : IW w S B d) (k : d.Ok) (reg size v : Int) (v0 : 0 ≤ v) (v1 : v < 4294967296) (hw : d.work + 4 < 9007199254740992) : Calls Tryz.prog 56 #[.pointer (some ⟨B, 0, none⟩), .int .i64 reg, .int .i64 size, .int .u32 v] w fun e w' => e = .returned (.int .i64 (ck reg size)) ∧ INx w S B (d.o reg size v) w' := by
  obtain ⟨dn, sv, h1, hd, h2⟩ := h.ex
  by_cases g : ck reg size = 0
  · have e : d.o reg size v = d.out reg size.toNat v := by unfold Id.o; rw [if_pos g]
    rw [g, e]
    refine (out_ok h1 hd k reg size v v0 v1 hw (by rw [chk_ck]; exact g)).mono fun e w' ⟨a, dn', sv', b1, bd, b2, b3⟩ => ⟨a, INx.mk b1 bd (fun j hj => ?_) (b3.mono fun j _ hj => h2 j hj)⟩
    rcases b2 j hj with f | f
    · exact .inl (h2 j f)
    · exact .inr f
  · have e : d.o reg size v = d := by unfold Id.o; rw [if_neg g]
    rw [e]
    have := out_no w (some ⟨B, 0, none⟩) reg size v (by rw [chk_ck]; exact g)
    rw [chk_ck] at this
    exact this.mono fun e w' ⟨a, b⟩ => ⟨a, .same h b⟩
theorem wIn (h : IW w S B d) (k : d.Ok) (reg size : Int) : Calls Tryz.prog 58 #[.pointer (some ⟨B, 0, none⟩), .int .i64 reg, .int .i64 size] w fun e w' => e = .returned (.tuple #[.int .u32 (d.iV reg size), .int .i64 (ck reg size)]) ∧ INx w S B (d.i reg size) w' := by
  obtain ⟨dn, sv, h1, hd, h2⟩ := h.ex
  by_cases g : ck reg size = 0
  · have e : d.i reg size = d.inn reg size.toNat := by unfold Id.i; rw [if_pos g]
    have e' : d.iV reg size = d.inV reg size.toNat := by unfold Id.iV; rw [if_pos g]
    rw [g, e, e']
    exact (in_ok h1 hd k reg size (by rw [chk_ck]; exact g)).mono fun e w' ⟨a, dn', b1, bd, b3⟩ => ⟨a, INx.mk b1 bd (fun j hj => .inl (h2 j hj)) (b3.mono fun j _ hj => h2 j (.inl hj))⟩
  · have e : d.i reg size = d := by unfold Id.i; rw [if_neg g]
    have e' : d.iV reg size = 0 := by unfold Id.iV; rw [if_neg g]
    rw [e, e']
    have := in_no w (some ⟨B, 0, none⟩) reg size (by rw [chk_ck]; exact g)
    rw [chk_ck] at this
    exact this.mono fun e w' ⟨a, b⟩ => ⟨a, .same h b⟩
theorem wLine (h : IW w S B d) (k : d.Ok) : Calls Tryz.prog 80 #[.pointer (some ⟨B, 0, none⟩)] w fun e w' => e = .returned (.bool d.line) ∧ w' = w := by
  obtain ⟨dn, sv, h1, hd, h2⟩ := h.ex
  exact line_ok h1 k
/-- Behind Written: the places are told, and no longer its own. -/
def ITold (w : World) (S : Nat → Prop) (B : Nat) (d : Id) (v : Value) (w' : World) : Prop := ∃ S', IW w' S' B d.told ∧ Nxt w S w' S' ∧ AsideI w' S' v d.log ∧ (∀ g, v.ownBlock = some g → S g)
theorem wWritten (h : IW w S B d) : Calls Tryz.prog 64 #[.pointer (some ⟨B, 0, none⟩)] w fun e w' => ∃ p c, e = .returned (.slice p d.log.length c) ∧ ITold w S B d (.slice p d.log.length c) w' := by
  obtain ⟨dn, sv, h1, hd, h2⟩ := h.ex
  obtain ⟨p, c, es⟩ := h1.log.sl
  subst es
  refine (written_ok h1).mono fun e w' ⟨a, b1, b3⟩ => ⟨p, c, a, fun k => S k ∧ (Value.slice p d.log.length c).ownBlock ≠ some k, ?_, ?_, ?_, ?_⟩
  · refine ⟨⟨dn, _, b1, hd, fun k g => ?_⟩, fun k g => Nat.lt_of_lt_of_le (h.lt k g.1) b3.size⟩
    rcases g with rfl | g
    · exact ⟨h2 _ (.inl rfl), fun e => h1.notB e rfl⟩
    · cases g
  · exact ⟨fun k g => .inl g.1, b3.mono fun j _ hj => h2 j (.inl hj)⟩
  · exact ⟨h1.log.kept b3 (fun g e => h1.notB e), fun g e f => f.2 e⟩
  · exact fun g e => h2 g (.inr e)
theorem wDisk (h : IW w S B d) (k : d.Ok) : Calls Tryz.prog 62 #[.pointer (some ⟨B, 0, none⟩)] w fun e w' => e = .returned (.slice (some ⟨w.heap.size, 0, none⟩) (512 * d.n) (512 * d.n)) ∧ DskPost w d w' := by
  obtain ⟨dn, sv, h1, hd, h2⟩ := h.ex
  exact disk_ok h1 k
end
/-- Behind New. -/
def INew (w : World) (L : Nat) (bt : Nat → Int) (w' : World) : Prop := ∃ S, IW w' S w.heap.size (id0 (L / 512) (dB L bt)) ∧ (∀ k, S k → w.heap.size ≤ k) ∧ Kp noB w w'
theorem wNew (w : World) (a : Option Addr) (L c : Nat) (bt : Nat → Int) (hb : BytAt w a L bt) (h1 : L % 512 = 0) (h2 : L ≤ 32768) : Calls Tryz.prog 30 #[.slice a L c] w fun e w' => e = .returned (.tuple #[.pointer (some ⟨w.heap.size, 0, none⟩), .int .i64 0]) ∧ INew w L bt w' := by
  refine (new_ok w a L c bt hb h1 h2).mono fun e w' ⟨a, dn, b1, b3⟩ => ⟨a, fun k => k = w.heap.size, ⟨⟨dn, _, b1, fun q => absurd rfl q, fun k g => ?_⟩, fun k g => ?_⟩, fun k g => by omega, b3⟩
  · rcases g with g | g
    · exact g
    · cases g
  · have := b1.lt
    omega
theorem dB_byt {L : Nat} {bt : Nat → Int} (h : ∀ j, j < L → byt (bt j)) (i : Nat) : byt (dB L bt i) := by
  unfold dB
  split
  · exact h i ‹_›
  · exact byt0
theorem idN_ok {L : Nat} {bt : Nat → Int} (h2 : L ≤ 32768) (h : ∀ j, j < L → byt (bt j)) : (id0 (L / 512) (dB L bt)).Ok := id0_ok (by omega) (fun i _ => dB_byt h i)
end Go.Proofs.YtclejmdmbanedaaGreat.Dk
namespace Go.Proofs.YtclejmdmbanedaaGreat.Dk
open Go.ChangeShapes Go.WideShapes Go.ChangeAt Go.RowKit
set_option linter.unusedVariables false
set_option maxRecDepth 20000
def foldN (s : Int) : Int := if s < 0 then -(s + 1) else s
/-- How many sectors. -/
def secN (s : Int) : Nat := (foldN s % 5).toNat
theorem secN_lt (s : Int) : secN s < 5 := by unfold secN; omega
def dskS (seed : Int) (i : Nat) : Int := (((i : Int) / 512 + 1) * 16 + (i : Int) % 7 + seed) % 256
theorem dskS_byt (seed : Int) (i : Nat) : byt (dskS seed i) := byt_m
/-- A block of bytes of its own. -/
structure RowB (w : World) (g L : Nat) (bt : Nat → Int) : Prop where
  ex : ∃ cur, w.heap[g]? = some (.cells cur 5 (0, 0)) ∧ cur.size = L ∧ ∀ j, j < L → cur[j]? = some (.int .u8 (bt j))
theorem RowB.at {w : World} {g L : Nat} {bt : Nat → Int} (h : RowB w g L bt) : BytAt w (some ⟨g, 0, none⟩) L bt := fun j hj => by
  obtain ⟨cur, h1, h2, h3⟩ := h.ex
  exact ⟨g, 0, rfl, heap_lt h1, by rw [cell_at h1, Nat.zero_add]; exact h3 j hj⟩
theorem RowB.kept {S : Nat → Prop} {w w' : World} {g L : Nat} {bt : Nat → Int} (h : RowB w g L bt) (k : Kp S w w') (hS : ¬ S g) : RowB w' g L bt := by
  obtain ⟨cur, h1, h2⟩ := h.ex
  exact ⟨cur, heap_kept h1 k hS, h2⟩
theorem RowB.lt {w : World} {g L : Nat} {bt : Nat → Int} (h : RowB w g L bt) : g < w.heap.size := by
  obtain ⟨cur, h1, h2⟩ := h.ex
  exact heap_lt h1
theorem RowB.cell {w : World} {g L : Nat} {bt : Nat → Int} (h : RowB w g L bt) {j : Nat} (hj : j < L) : w.cell? ⟨g, j, none⟩ = some (.int .u8 (bt j)) := by
  obtain ⟨cur, h1, h2, h3⟩ := h.ex
  rw [cell_at h1]
  exact h3 j hj
theorem RowB.fz {w : World} {g L : Nat} {bt : Nat → Int} (h : RowB w g L bt) (j : Nat) : w.frozen? ⟨g, j, none⟩ = false := by
  obtain ⟨cur, h1, h2, h3⟩ := h.ex
  exact frozen_at h1
theorem RowB.set {w : World} {g L : Nat} {bt : Nat → Int} (h : RowB w g L bt) (k : Nat) (x : Int) : RowB (w.setCell ⟨g, k, none⟩ (.int .u8 x)) g L (setB bt k x) := by
  obtain ⟨cur, h1, h2, h3⟩ := h.ex
  refine ⟨_, heap_set h1, by rw [Array.size_setIfInBounds]; exact h2, fun j hj => ?_⟩
  rw [Array.getElem?_setIfInBounds]
  unfold setB
  by_cases e : k = j
  · subst e
    rw [if_pos rfl, if_pos (by omega), if_pos rfl]
  · rw [if_neg e, if_neg (by omega)]
    exact h3 j hj
theorem RowB.of {w : World} {g L : Nat} {bt bt' : Nat → Int} (h : RowB w g L bt) (e : ∀ j, j < L → bt j = bt' j) : RowB w g L bt' := by
  obtain ⟨cur, h1, h2, h3⟩ := h.ex
  exact ⟨cur, h1, h2, fun j hj => by rw [h3 j hj, e j hj]⟩
theorem DskPost.row {w w' : World} {d : Id} (h : DskPost w d w') : RowB w' w.heap.size (512 * d.n) d.D := by
  obtain ⟨h1, _, cur, h3, h4⟩ := h
  refine ⟨cur, h3, h4, fun j hj => ?_⟩
  obtain ⟨b, o, e, _, hc⟩ := h1 j hj
  injection e with e
  injection e with e1 e2
  subst e1; subst e2
  rw [cell_at h3, Nat.zero_add] at hc
  exact hc
theorem made_row (w : World) (n : Nat) : RowB (w.alloc (.cells (made8 n) 5)) w.heap.size n (fun _ => 0) :=
  ⟨_, heap_new _ _, (made8_at n).1, (made8_at n).2⟩
set_option maxHeartbeats 1000000 in
theorem lDisk_any (w : World) (s seed : Int) (s0 : -9223372036854775808 ≤ s) (s1 : s ≤ 9223372036854775807) (hs : byt seed) : Calls Tryz.prog 21 #[.int .i64 s, .int .u8 seed] w fun e w' => e = .returned (.slice (some ⟨w.heap.size, 0, none⟩) (512 * secN s) (512 * secN s)) ∧ RowB w' w.heap.size (512 * secN s) (dskS seed) ∧ Kp noB w w' := by
  obtain ⟨m, hm⟩ : ∃ m, m = secN s := ⟨_, rfl⟩
  have m5 := secN_lt s
  rw [← hm] at m5 ⊢
  have hmk : ∀ w, _ := fun w => make8 w (512 * m) (by omega)
  have em : ((512 * m : Nat) : Int) = (m : Int) * 512 := by omega
  rw [em] at hmk
  have hw : IntKind.i64.wrap ((m : Int) * 512) = (m : Int) * 512 := by rw [IntKind.wrap_i64]; omega
  have r0 : Hid (RowB (w.alloc (.cells (made8 (512 * m)) 5)) w.heap.size (512 * m) (fun _ => 0)) := made_row w (512 * m)
  have k0 : Hid (Kp noB w (w.alloc (.cells (made8 (512 * m)) 5))) := Kp.alloc _ _ _
  obtain ⟨h0, h1⟩ := hs
  have hq : foldN s % 5 = m := by rw [hm]; unfold secN foldN; split <;> omega
  clear hm
  have hw2 : wrap64 ((m : Int) * 512) = (m : Int) * 512 := IntWalk.wrap64_in _ ⟨by omega, by omega⟩
  by_cases neg : s < 0
  · have hf : -((s + 1).tmod 5) = m := by
      unfold foldN at hq
      rw [if_pos neg] at hq
      rw [← Int.neg_tmod, Int.tmod_eq_emod_of_nonneg (by omega)]
      exact hq
    clear hq
    go_enter Tryz.func21, Tryz.ntmps21
    go_wp2
    generalize w.alloc (.cells (made8 (512 * m)) 5) = w0 at r0 k0 ⊢
    clear hmk
    go_loopw [6] (fun s6 wr => ∃ i : Nat, i ≤ 512 * m ∧ s6 = .int .i64 i ∧ RowB wr w.heap.size (512 * m) (fun j => if j < i then dskS seed j else 0) ∧ Kp noB w wr) (fun s6 _ => 512 * m - (intOf s6).toNat)
    case atStart => exact ⟨0, by omega, rfl, r0.out.of (fun j hj => by rw [if_neg (by omega)]), k0.out⟩
    case round =>
      clear r0 k0
      obtain ⟨i, hi, rfl, hr, kr⟩ := hrel
      by_cases hiL : i < 512 * m
      · have c1 := hr.cell hiL
        have z1 := hr.fz i
        have hlt : (i : Int) < ((512 * m : Nat) : Int) := by omega
        have H : Hid (RowB (wr.setCell ⟨w.heap.size, i, none⟩ (.int .u8 (dskS seed i))) w.heap.size (512 * m) (fun j => if j < i + 1 then dskS seed j else 0) ∧ Kp noB w (wr.setCell ⟨w.heap.size, i, none⟩ (.int .u8 (dskS seed i)))) := by
          refine ⟨(hr.set i (dskS seed i)).of (fun j hj => ?_), kr.over (kpB w.heap.size _ _ _) (fun j hj (e : j = _) => by omega)⟩
          unfold setB
          by_cases e : j = i
          · subst e
            rw [if_pos rfl, if_pos (by omega)]
          · rw [if_neg e]
            show (if j < i then dskS seed j else 0) = _
            by_cases e2 : j < i
            · rw [if_pos e2, if_pos (by omega)]
            · rw [if_neg e2, if_neg (by omega)]
        clear hr kr
        go_wp2
        go_roundw
        case rel => exact ⟨i + 1, by omega, by go_num, H.out.1, H.out.2⟩
        case measure => simp [intOf]; omega
      · have e : i = 512 * m := by omega
        subst e
        have H : Hid (RowB wr w.heap.size (512 * m) (dskS seed) ∧ Kp noB w wr) := ⟨hr.of (fun j hj => by rw [if_pos hj]), kr⟩
        clear hr kr
        go_wp2
        go_ret
        exact ⟨rfl, H.out⟩
  · have hf : s % 5 = m := by unfold foldN at hq; rw [if_neg neg] at hq; exact hq
    clear hq
    go_enter Tryz.func21, Tryz.ntmps21
    go_wp2
    generalize w.alloc (.cells (made8 (512 * m)) 5) = w0 at r0 k0 ⊢
    clear hmk
    go_loopw [6] (fun s6 wr => ∃ i : Nat, i ≤ 512 * m ∧ s6 = .int .i64 i ∧ RowB wr w.heap.size (512 * m) (fun j => if j < i then dskS seed j else 0) ∧ Kp noB w wr) (fun s6 _ => 512 * m - (intOf s6).toNat)
    case atStart => exact ⟨0, by omega, rfl, r0.out.of (fun j hj => by rw [if_neg (by omega)]), k0.out⟩
    case round =>
      clear r0 k0
      obtain ⟨i, hi, rfl, hr, kr⟩ := hrel
      by_cases hiL : i < 512 * m
      · have c1 := hr.cell hiL
        have z1 := hr.fz i
        have hlt : (i : Int) < ((512 * m : Nat) : Int) := by omega
        have H : Hid (RowB (wr.setCell ⟨w.heap.size, i, none⟩ (.int .u8 (dskS seed i))) w.heap.size (512 * m) (fun j => if j < i + 1 then dskS seed j else 0) ∧ Kp noB w (wr.setCell ⟨w.heap.size, i, none⟩ (.int .u8 (dskS seed i)))) := by
          refine ⟨(hr.set i (dskS seed i)).of (fun j hj => ?_), kr.over (kpB w.heap.size _ _ _) (fun j hj (e : j = _) => by omega)⟩
          unfold setB
          by_cases e : j = i
          · subst e
            rw [if_pos rfl, if_pos (by omega)]
          · rw [if_neg e]
            show (if j < i then dskS seed j else 0) = _
            by_cases e2 : j < i
            · rw [if_pos e2, if_pos (by omega)]
            · rw [if_neg e2, if_neg (by omega)]
        clear hr kr
        go_wp2
        go_roundw
        case rel => exact ⟨i + 1, by omega, by go_num, H.out.1, H.out.2⟩
        case measure => simp [intOf]; omega
      · have e : i = 512 * m := by omega
        subst e
        have H : Hid (RowB wr w.heap.size (512 * m) (dskS seed) ∧ Kp noB w wr) := ⟨hr.of (fun j hj => by rw [if_pos hj]), kr⟩
        clear hr kr
        go_wp2
        go_ret
        exact ⟨rfl, H.out⟩
end Go.Proofs.YtclejmdmbanedaaGreat.Dk
namespace Go.Proofs.YtclejmdmbanedaaGreat.Dk
open Go.ChangeShapes Go.WideShapes Go.ChangeAt Go.RowKit
set_option linter.unusedVariables false
set_option maxRecDepth 20000
theorem one_int : Tryz.prog.cellsOf 3 = 1 := by kernel_rfl
theorem one_u32 : Tryz.prog.cellsOf 42 = 1 := by kernel_rfl
theorem spotless {w : World} {b o : Nat} {sp : Option Nat} {v : Value} (h : w.cell? ⟨b, o, sp⟩ = some v) : sp = none := by
  cases sp with
  | none => rfl
  | some x =>
    unfold World.cell? at h
    split at h <;> simp at h
theorem spot_of2 {w : World} {base blk off K : Nat} {sp : Option Nat} {cs : List Value} (h : w.cells? base ((⟨blk, off, sp⟩ : Addr).add (0 * K)) K = some cs) (hK : 0 < K) : sp = none := by
  obtain ⟨_, hl, hg⟩ := World.cells?_some h
  have h0 := hg 0 hK
  have hl1 : 0 < cs.length := by rw [hl]; exact hK
  rw [List.getElem?_eq_getElem hl1, Nat.zero_mul] at h0
  exact spotless (w := w) (b := blk) (o := off) h0
theorem add_plain (blk off n : Nat) : (⟨blk, off, none⟩ : Addr).add n = ⟨blk, off + n, none⟩ := by
  unfold Addr.add
  split
  · rename_i hz
    rw [hz]
    rfl
  · rfl
/-- One call of a list of calls. -/
def OpIn (w : World) (x : Option Addr) (i : Nat) : Prop :=
  ∃ (blk off : Nat) (kd rg sz v tm : Int), x = some ⟨blk, off, none⟩ ∧ blk < w.heap.size ∧ (w.cell? ⟨blk, off + i * 5, none⟩ = some (.int .i64 kd) ∧ w.cell? ⟨blk, off + i * 5 + 1, none⟩ = some (.int .i64 rg) ∧ w.cell? ⟨blk, off + i * 5 + 2, none⟩ = some (.int .i64 sz) ∧ w.cell? ⟨blk, off + i * 5 + 3, none⟩ = some (.int .u32 v) ∧ w.cell? ⟨blk, off + i * 5 + 4, none⟩ = some (.int .i64 tm)) ∧
    (-9223372036854775808 ≤ kd ∧ kd ≤ 9223372036854775807) ∧ (-9223372036854775808 ≤ rg ∧ rg ≤ 9223372036854775807) ∧ (-9223372036854775808 ≤ sz ∧ sz ≤ 9223372036854775807) ∧ (0 ≤ v ∧ v < 4294967296) ∧ (-9223372036854775808 ≤ tm ∧ tm ≤ 9223372036854775807)
theorem OpIn.kp {w w' : World} {x : Option Addr} {i : Nat} (h : OpIn w x i) (k : Kp noB w w') : OpIn w' x i := by
  obtain ⟨blk, off, kd, rg, sz, v, tm, h1, h2, ⟨c0, c1, c2, c3, c4⟩, h3⟩ := h
  exact ⟨blk, off, kd, rg, sz, v, tm, h1, Nat.lt_of_lt_of_le h2 k.size, ⟨cell_kept c0 k id, cell_kept c1 k id, cell_kept c2 k id, cell_kept c3 k id, cell_kept c4 k id⟩, h3⟩
structure BytIn (w : World) (a : Option Addr) (L : Nat) (bt : Nat → Int) : Prop where
  at' : BytAt w a L bt
  bd : ∀ j, j < L → 0 ≤ bt j ∧ bt j < 256
  le : L ≤ 140737488351232
theorem bytesIn {H : Type} {enc : TypeId × Value → H} {w : World} {fuel : Nat} {a : Option Addr} {len cap : Nat} {d : DataW H} {p : List MemPlace} (h : DataW.trod enc Tryz.prog w 0 (fun _ => true) true fuel 22 (Value.slice a len cap).cells.toList = some (d, p))
    (hz : ∀ elems spare, d = .slice elems spare → (elems.length + spare.length) * Tryz.prog.bytesOf 5 ≤ reachBytes) : ∃ bt, BytIn w a len bt := by
  rcases open_ints Tryz.underlying22 Tryz.underlying5 (by kernel_rfl) h with ⟨hcs, _⟩ | ⟨y, l, c, zs, hcs, _, hl, hm, hzl, hx, hcell, hwz⟩
  · simp [Value.cells] at hcs
    obtain ⟨rfl, rfl, rfl⟩ := hcs
    exact ⟨fun _ => 0, fun j hj => absurd hj (by simp), fun j hj => absurd hj (by simp), by simp⟩
  · simp [Value.cells] at hcs
    obtain ⟨rfl, rfl, rfl⟩ := hcs
    have hz' : zs.length = cap := by simpa using hzl
    injection hx with hd hp
    have hs := hz _ _ hd
    have hb : Tryz.prog.bytesOf 5 = 1 := by kernel_rfl
    have hr : reachBytes = 140737488351232 := rfl
    have hlen : len ≤ 140737488351232 := by
      rw [hb] at hs
      have e : (lits (H := H) .u8 (List.take len zs)).length = len := by unfold lits; rw [List.length_map, List.length_take]; omega
      rw [e] at hs
      omega
    refine ⟨fun j => zs.getD j 0, fun j hj => ?_, fun j hj => ?_, hlen⟩
    · obtain ⟨b, off, rfl, hc⟩ := ints_at hcell (by omega)
      have := hc j (by omega)
      exact ⟨b, off, rfl, cell_below this, this⟩
    · have hj' : j < zs.length := by omega
      have e : zs.getD j 0 ∈ zs := by rw [List.getD_eq_getElem?_getD, List.getElem?_eq_getElem hj']; exact List.getElem_mem hj'
      have := bounds_u8 (hwz _ e)
      omega
end Go.Proofs.YtclejmdmbanedaaGreat.Dk
namespace Go.Proofs.YtclejmdmbanedaaGreat.Dk
open Go.RowKit
set_option linter.unusedVariables false
/-- The disk and the list of what was written are as they were; nothing is being written. -/
structure Quiet (d d' : Id) : Prop where
  n : d'.n = d.n
  D : d'.D = d.D
  log : d'.log = d.log
  mode : d'.mode ≠ 2
theorem Quiet.trans {a b c : Id} (h : Quiet a b) (k : Quiet b c) : Quiet a c := ⟨k.n.trans h.n, k.D.trans h.D, k.log.trans h.log, k.mode⟩
/-- A command at a place, of one sector. -/
def Id.sector (d : Id) (k p : Int) : Id := (((((d.out 6 1 64).out 5 1 0).out 4 1 0).out 3 1 p).out 2 1 1).out 7 1 k
/-- The registers as 'sector' leaves them ahead of the command. -/
def Id.set (d : Id) (p : Int) : Id := { d with r6 := 64, r5 := 0, r4 := 0, r3 := p % 256, r2 := 1 }
end Go.Proofs.YtclejmdmbanedaaGreat.Dk
namespace Go.Proofs.YtclejmdmbanedaaGreat.Dk
open Go.ChangeShapes Go.WideShapes Go.ChangeAt Go.RowKit
set_option linter.unusedVariables false
set_option maxRecDepth 20000
/-- n bytes from the i-th on. -/
def sg (bt : Nat → Int) (i n : Nat) : List Int := (List.range' i n).map bt
theorem sg_len (bt : Nat → Int) (i n : Nat) : (sg bt i n).length = n := by simp [sg]
theorem sg_get (bt : Nat → Int) {n j : Nat} (h : j < n) : (sg bt 0 n).getD j 0 = bt j := by
  unfold sg
  rw [List.getD_eq_getElem?_getD, List.getElem?_map, List.getElem?_range' h]
  simp
/-- The value is a slice whose bytes make this string. -/
def StrAt (w : World) (v : Value) (l : List Int) : Prop := (convert 22 9 v).run Tryz.prog w = .ok (.string (strOfNums l)) w
theorem BytAt.str {w : World} {a : Option Addr} {L c : Nat} {bt : Nat → Int} (h : BytAt w a L bt) : StrAt w (.slice a L c) (sg bt 0 L) := by
  unfold StrAt
  cases L with
  | zero =>
    cases a with
    | none => exact run_convert_bytes_nil w _ 5 Tryz.underlying22 Tryz.underlying5 0 c _ Tryz.underlying9
    | some x =>
      rw [run_convert_bytes_string w _ _ 5 _ _ _ Tryz.underlying22 Tryz.underlying5 Tryz.underlying9, run_bytesToString w x 0 c [] (by simpa using run_loadCells_list (P := Tryz.prog) w x [] (fun j v hv => by simp at hv))]
      rfl
  | succ L =>
    obtain ⟨b, o, rfl, hb, hc⟩ := h 0 (by omega)
    refine run_convert_bytes_arg w _ 5 Tryz.underlying22 Tryz.underlying5 b o (L + 1) c _ (sg_len _ _ _) (fun i hi => ?_) _ Tryz.underlying9
    obtain ⟨b', o', e, hb, hc⟩ := h i hi
    injection e with e
    injection e with e1 e2
    subst e1; subst e2
    rw [sg_get bt hi]
    exact hc
/-- The bytes of a row, as a string. -/
def strR (L : Nat) (bt : Nat → Int) : List Int := sg bt 0 L
theorem RowB.str {w : World} {g L c : Nat} {bt : Nat → Int} (h : RowB w g L bt) : StrAt w (.slice (some ⟨g, 0, none⟩) L c) (strR L bt) := h.at.str
theorem strR_same {L : Nat} {a b : Nat → Int} (h : ∀ j, j < L → a j = b j) : strR L a = strR L b := by
  unfold strR sg
  apply List.map_congr_left
  intro x hx
  rw [List.mem_range'_1] at hx
  exact h x (by omega)
end Go.Proofs.YtclejmdmbanedaaGreat.Dk
namespace Go.Proofs.YtclejmdmbanedaaGreat.Dk
open Go.ChangeShapes Go.WideShapes Go.ChangeAt Go.RowKit
set_option linter.unusedVariables false
set_option maxRecDepth 20000
structure St (W w : World) (B : Nat) (sd : List (Nat × Obj)) (d : Id) : Prop where
  ex : ∃ S, IW w S B d ∧ Bs W w S ∧ ∀ x ∈ sd, ¬ S x.1 ∧ w.heap[x.1]? = some x.2
  ok : d.Ok
section
variable {W w w' : World} {B : Nat} {sd : List (Nat × Obj)} {d d' : Id}
theorem St.kp (h : St W w B sd d) : Kp noB W w := by
  obtain ⟨S, h1, h2, h3⟩ := h.ex
  exact h2.kp
theorem St.heap (h : St W w B sd d) {g : Nat} {o : Obj} (hx : (g, o) ∈ sd) : w.heap[g]? = some o := by
  obtain ⟨S, h1, h2, h3⟩ := h.ex
  exact (h3 _ hx).2
theorem St.keep (h : St W w B sd d) (k : Kp noB w w') : St W w' B sd d := by
  obtain ⟨S, h1, h2, h3⟩ := h.ex
  exact ⟨⟨S, h1.keep k, h2.keep k, fun x hx => ⟨(h3 x hx).1, heap_kept (h3 x hx).2 k id⟩⟩, h.ok⟩
theorem St.drew (h : St W w B sd d) : St W w.drew B sd d := h.keep (Kp.refl _ _).drew
theorem St.less (h : St W w B sd d) {sd' : List (Nat × Obj)} (e : ∀ x ∈ sd', x ∈ sd) : St W w B sd' d := by
  obtain ⟨S, h1, h2, h3⟩ := h.ex
  exact ⟨⟨S, h1, h2, fun x hx => h3 x (e x hx)⟩, h.ok⟩
/-- A new block lies beside it. -/
theorem St.more (h : St W w B sd d) (k : Kp noB w w') {g : Nat} {o : Obj} (hg : w.heap.size ≤ g) (ho : w'.heap[g]? = some o) : St W w' B ((g, o) :: sd) d := by
  obtain ⟨S, h1, h2, h3⟩ := h.ex
  refine ⟨⟨S, h1.keep k, h2.keep k, fun x hx => ?_⟩, h.ok⟩
  rcases List.mem_cons.1 hx with e | hx
  · subst e
    exact ⟨fun f => by have := h1.lt _ f; omega, ho⟩
  · exact ⟨(h3 x hx).1, heap_kept (h3 x hx).2 k id⟩
theorem St.alloc (h : St W w B sd d) (o : Obj) : St W (w.alloc o) B ((w.heap.size, o) :: sd) d := h.more (Kp.alloc noB _ _) (Nat.le_refl _) (heap_new _ _)
/-- What lies beside it is changed. -/
theorem St.turn (h : St W w B sd d) {g : Nat} {o o' : Obj} {sd0 : List (Nat × Obj)} (hx : (g, o) ∈ sd) (hs : ∀ x ∈ sd0, x ∈ sd ∧ x.1 ≠ g) (hW : W.heap.size ≤ g) (k : Kp (isB g) w w') (ho : w'.heap[g]? = some o') : St W w' B ((g, o') :: sd0) d := by
  obtain ⟨S, h1, h2, h3⟩ := h.ex
  have hg := (h3 _ hx).1
  refine ⟨⟨S, h1.kept k (fun j hj (e : j = g) => hg (e ▸ hj)), ⟨h2.new, h2.kp.over k (fun j hj (e : j = g) => by omega)⟩, fun x hx => ?_⟩, h.ok⟩
  rcases List.mem_cons.1 hx with e | hx
  · subst e
    exact ⟨hg, ho⟩
  · obtain ⟨a, b⟩ := hs x hx
    exact ⟨(h3 x a).1, heap_kept (h3 x a).2 k b⟩
theorem St.next {S : Nat → Prop} (b : Bs W w S) (hS : ∀ x ∈ sd, ¬ S x.1 ∧ w.heap[x.1]? = some x.2) (n : INx w S B d' w') (k : d'.Ok) : St W w' B sd d' := by
  obtain ⟨S', h1, h2⟩ := n
  refine ⟨⟨S', h1, b.next h2, fun x hx => ?_⟩, k⟩
  have f := (⟨heap_lt (hS x hx).2, (hS x hx).1⟩ : Far w S x.1).next h2
  exact ⟨f.out, heap_kept (hS x hx).2 h2.kp (hS x hx).1⟩
theorem St.out (h : St W w B sd d) (reg size v : Int) (v0 : 0 ≤ v) (v1 : v < 4294967296) (hw : d.work + 4 < 9007199254740992) : Calls Tryz.prog 56 #[.pointer (some ⟨B, 0, none⟩), .int .i64 reg, .int .i64 size, .int .u32 v] w fun e w' => e = .returned (.int .i64 (ck reg size)) ∧ St W w' B sd (d.o reg size v) := by
  obtain ⟨S, h1, h2, h3⟩ := h.ex
  exact (wOut h1 h.ok reg size v v0 v1 hw).mono fun e w' ⟨a, b⟩ => ⟨a, .next h2 h3 b (h.ok.o _ _ _)⟩
theorem St.line (h : St W w B sd d) : Calls Tryz.prog 80 #[.pointer (some ⟨B, 0, none⟩)] w fun e w' => e = .returned (.bool d.line) ∧ w' = w := by
  obtain ⟨S, h1, h2, h3⟩ := h.ex
  exact wLine h1 h.ok
/-- Behind Disk: all its bytes, and it is as it was. -/
def Dsk1 (W w : World) (B : Nat) (sd : List (Nat × Obj)) (d : Id) (w' : World) : Prop := ∃ cur, St W w' B ((w.heap.size, .cells cur 5 (0, 0)) :: sd) d ∧ cur.size = 512 * d.n ∧ (∀ j, j < 512 * d.n → cur[j]? = some (.int .u8 (d.D j))) ∧ Kp noB w w'
theorem St.disk (h : St W w B sd d) : Calls Tryz.prog 62 #[.pointer (some ⟨B, 0, none⟩)] w fun e w' => e = .returned (.slice (some ⟨w.heap.size, 0, none⟩) (512 * d.n) (512 * d.n)) ∧ Dsk1 W w B sd d w' := by
  obtain ⟨S, h1, h2, h3⟩ := h.ex
  refine (wDisk h1 h.ok).mono fun e w' ⟨a, b⟩ => ⟨a, ?_⟩
  obtain ⟨cur, c1, c2, c3⟩ := b.row.ex
  exact ⟨cur, h.more b.2.1 (Nat.le_refl _) c1, c2, c3, b.2.1⟩
/-- Behind Written: what was told lies aside. -/
def Told1 (W w : World) (B : Nat) (sd : List (Nat × Obj)) (d : Id) (v : Value) (w' : World) : Prop := St W w' B sd d.told ∧ ∃ S, IW w' S B d.told ∧ Bs W w' S ∧ AsideI w' S v d.log ∧ (∀ x ∈ sd, ¬ S x.1 ∧ w'.heap[x.1]? = some x.2) ∧ (∀ k, v.ownBlock = some k → W.heap.size ≤ k ∧ ∀ x ∈ sd, x.1 ≠ k)
theorem St.written (h : St W w B sd d) : Calls Tryz.prog 64 #[.pointer (some ⟨B, 0, none⟩)] w fun e w' => ∃ p c, e = .returned (.slice p d.log.length c) ∧ Told1 W w B sd d (.slice p d.log.length c) w' := by
  obtain ⟨S, h1, h2, h3⟩ := h.ex
  refine (wWritten h1).mono fun e w' ⟨p, c, a, S', b1, b2, b3, b4⟩ => ?_
  have hs := fun x hx => ((⟨heap_lt (h3 x hx).2, (h3 x hx).1⟩ : Far w S x.1).next b2)
  have hh : ∀ x ∈ sd, ¬ S' x.1 ∧ w'.heap[x.1]? = some x.2 := fun x hx => ⟨(hs x hx).out, heap_kept (h3 x hx).2 b2.kp (h3 x hx).1⟩
  exact ⟨p, c, a, ⟨⟨S', b1, h2.next b2, hh⟩, h.ok.told⟩, S', b1, h2.next b2, b3, hh, fun k e => ⟨h2.new k (b4 k e), fun x hx e' => (h3 x hx).1 (e' ▸ b4 k e)⟩⟩
end
/-- A row of bytes, by its cells. -/
def rowO (cur : Array Value) : Obj := .cells cur 5 (0, 0)
def isRow (cur : Array Value) (L : Nat) (bt : Nat → Int) : Prop := cur.size = L ∧ ∀ j, j < L → cur[j]? = some (.int .u8 (bt j))
theorem isRow.row {w : World} {g L : Nat} {bt : Nat → Int} {cur : Array Value} (h : isRow cur L bt) (hg : w.heap[g]? = some (rowO cur)) : RowB w g L bt := ⟨cur, hg, h.1, h.2⟩
theorem RowB.is {w : World} {g L : Nat} {bt : Nat → Int} (h : RowB w g L bt) : ∃ cur, isRow cur L bt ∧ w.heap[g]? = some (rowO cur) := by
  obtain ⟨cur, h1, h2, h3⟩ := h.ex
  exact ⟨cur, ⟨h2, h3⟩, h1⟩
end Go.Proofs.YtclejmdmbanedaaGreat.Dk
namespace Go.Proofs.YtclejmdmbanedaaGreat.Dk
open Go.ChangeShapes Go.WideShapes Go.ChangeAt Go.RowKit
set_option linter.unusedVariables false
set_option maxRecDepth 20000
/-- A slice of these ints. -/
def IntAt (w : World) (p : Option Addr) (l : List Int) : Prop := ∀ i, i < l.length → ∃ g o, p = some ⟨g, o, none⟩ ∧ w.cell? ⟨g, o + i, none⟩ = some (.int .i64 (l.getD i 0))
theorem OwnI.at {w : World} {p : Option Addr} {n c : Nat} {l : List Int} (h : OwnI w (.slice p n c) l) : IntAt w p l := fun i hi => by
  rcases h.2 with ⟨e, h2⟩ | ⟨g, cap, cur, e, hb, hg, hc, hm, hsz, ht⟩
  · omega
  · injection e with e1 e2 e3
    subst e1
    refine ⟨g, 0, rfl, ?_⟩
    rw [cell_of_row _ _ _ _ _ _ hg, Nat.zero_add]
    have e := congrArg (fun L : List Value => L[i]?) ht
    simp only [Nat.mul_one] at e
    rw [List.getElem?_take_of_lt hi, List.getElem?_map, List.getElem?_eq_getElem hi] at e
    rw [← Array.getElem?_toList, e, List.getD_eq_getElem?_getD, List.getElem?_eq_getElem hi]
    rfl
theorem IntAt.kept {S : Nat → Prop} {w w' : World} {p : Option Addr} {l : List Int} (h : IntAt w p l) (k : Kp S w w') (hS : ∀ a, p = some a → ¬ S a.block) : IntAt w' p l := fun i hi => by
  obtain ⟨g, o, e, hc⟩ := h i hi
  exact ⟨g, o, e, cell_kept hc k (hS _ e)⟩
set_option maxHeartbeats 1000000 in
theorem same_ok (w : World) (p q : Option Addr) (c e : Nat) (l : List Int) (hp : IntAt w p l) (hq : IntAt w q l) (hl : l.length < 4611686018427387904) : Calls Tryz.prog 52 #[.slice p l.length c, .slice q l.length e] w fun r w' => r = .returned (.bool true) ∧ Kp noB w w' := by
  have HP : Hid (IntAt w p l) := hp
  have HQ : Hid (IntAt w q l) := hq
  obtain ⟨n, hn⟩ : ∃ n, n = l.length := ⟨_, rfl⟩
  rw [← hn] at hl ⊢
  have HL : Hid (n = l.length) := hn
  clear hp hq hn
  go_enter Tryz.func52, Tryz.ntmps52
  go_wp2
  go_loopw [5] (fun s5 wr => ∃ i : Nat, i ≤ n ∧ s5 = .int .i64 i ∧ Kp noB w wr) (fun s5 _ => n - (intOf s5).toNat)
  case atStart => exact ⟨0, by omega, rfl, Kp.refl _ _⟩
  case round =>
    obtain ⟨i, hi, rfl, kr⟩ := hrel
    have K : Hid (Kp noB w wr) := kr
    clear kr
    by_cases hlt : i < n
    · obtain ⟨g, o, rfl, h1⟩ := HP.out i (by have := HL.out; omega)
      obtain ⟨g', o', rfl, h2⟩ := HQ.out i (by have := HL.out; omega)
      have c1 := cell_kept h1 K.out id
      have c2 := cell_kept h2 K.out id
      have hlt' : (i : Int) < (n : Int) := by omega
      generalize l.getD i 0 = y at *
      clear h1 h2
      go_wp2
      go_quiet (fail)
      go_wp2
      go_roundw
      case rel => exact ⟨i + 1, by omega, by go_num, K.out.drewN _⟩
      case measure => simp [intOf]; omega
    · have e : i = n := by omega
      subst e
      go_wp2
      go_ret
      exact ⟨rfl, K.out⟩
end Go.Proofs.YtclejmdmbanedaaGreat.Dk
namespace Go.Proofs.YtclejmdmbanedaaGreat.Dk
open Go.ChangeShapes Go.WideShapes Go.ChangeAt Go.RowKit
set_option linter.unusedVariables false
set_option maxRecDepth 20000
/-- The k-th cell of its block. -/
def xC (Dv : Value) (R : Nat → Int) (c : Int) (buf : Nat → Int) (dn mo : Int) (mk fl : Bool) (sv : Value) (k : Nat) : Value :=
  if k = 0 then Dv else if k < 8 then .int .u8 (R (k - 1)) else if k = 8 then .int .u8 c else if k < 521 then .int .u8 (buf (k - 9)) else if k = 521 then .int .i64 dn else if k = 522 then .int .i64 mo else if k = 523 then .bool mk else if k = 524 then .bool fl else sv
def YAt (w : World) (B : Nat) (f : Nat → Value) : Prop := ∃ cur : Array Value, w.heap[B]? = some (.cells cur 110 (0, 0)) ∧ cur.size = 526 ∧ ∀ k, k < 526 → cur[k]? = some (f k)
section
variable {w w' : World} {B : Nat} {f : Nat → Value}
theorem YAt.kept {S : Nat → Prop} (h : YAt w B f) (k : Kp S w w') (hS : ¬ S B) : YAt w' B f := by
  obtain ⟨cur, h1, h2⟩ := h
  exact ⟨cur, heap_kept h1 k hS, h2⟩
theorem YAt.lt (h : YAt w B f) : B < w.heap.size := by
  obtain ⟨cur, h1, h2⟩ := h
  exact heap_lt h1
theorem YAt.cell (h : YAt w B f) (k : Nat) (hk : k < 526) : w.cell? ⟨B, k, none⟩ = some (f k) := by
  obtain ⟨cur, h1, h2, h3⟩ := h
  rw [cell_at h1]
  exact h3 k hk
theorem YAt.fz (h : YAt w B f) (k : Nat) : w.frozen? ⟨B, k, none⟩ = false := by
  obtain ⟨cur, h1, h2, h3⟩ := h
  exact frozen_at h1
theorem YAt.of (h : YAt w B f) {g : Nat → Value} (e : ∀ k, k < 526 → f k = g k) : YAt w B g := by
  obtain ⟨cur, h1, h2, h3⟩ := h
  exact ⟨cur, h1, h2, fun k hk => by rw [h3 k hk, e k hk]⟩
theorem YAt.set (h : YAt w B f) (k : Nat) (hk : k < 526) (v : Value) : YAt (w.setCell ⟨B, k, none⟩ v) B (fun j => if j = k then v else f j) := by
  obtain ⟨cur, h1, h2, h3⟩ := h
  refine ⟨_, heap_set h1, by rw [Array.size_setIfInBounds]; exact h2, fun j hj => ?_⟩
  rw [Array.getElem?_setIfInBounds]
  by_cases e : k = j
  · subst e
    rw [if_pos rfl, if_pos (by omega)]
    show some v = some (if k = k then v else f k)
    rw [if_pos rfl]
  · rw [if_neg e]
    show cur[j]? = some (if j = k then v else f j)
    rw [if_neg (by omega)]
    exact h3 j hj
theorem YAt.laid (h : YAt w B f) {cur cur' : Array Value} (hb : w.heap[B]? = some (.cells cur 110 (0, 0))) (hb' : w'.heap[B]? = some (.cells cur' 110 (0, 0))) {o n : Nat} {g : Nat → Value} (hl : Laid cur cur' o n g) : YAt w' B (fun j => if o ≤ j ∧ j < o + n then g (j - o) else f j) := by
  obtain ⟨c0, h1, h2, h3⟩ := h
  rw [h1] at hb
  have e : c0 = cur := by injection hb with hb; injection hb
  subst e
  refine ⟨cur', hb', by rw [hl.1]; exact h2, fun j hj => ?_⟩
  rw [hl.2 j]
  by_cases e : o ≤ j ∧ j < o + n
  · rw [if_pos e]
    show some (g (j - o)) = some (if o ≤ j ∧ j < o + n then g (j - o) else f j)
    rw [if_pos e]
  · rw [if_neg e]
    show c0[j]? = some (if o ≤ j ∧ j < o + n then g (j - o) else f j)
    rw [if_neg e]
    exact h3 j hj
end
section
variable {Dv : Value} {R buf : Nat → Int} {c dn mo : Int} {mk fl : Bool} {sv : Value}
theorem xC_R {j : Nat} (h : j < 7) : xC Dv R c buf dn mo mk fl sv (1 + j) = .int .u8 (R j) := by
  unfold xC
  rw [if_neg (by omega), if_pos (by omega), show 1 + j - 1 = j by omega]
theorem xC_b {j : Nat} (h : j < 512) : xC Dv R c buf dn mo mk fl sv (9 + j) = .int .u8 (buf j) := by
  unfold xC
  rw [if_neg (by omega), if_neg (by omega), if_neg (by omega), if_pos (by omega), show 9 + j - 9 = j by omega]
theorem xC_setR {j : Nat} (h : j < 7) (x : Int) (k : Nat) : (if k = 1 + j then Value.int .u8 x else xC Dv R c buf dn mo mk fl sv k) = xC Dv (setB R j x) c buf dn mo mk fl sv k := by
  by_cases e : k = 1 + j
  · subst e
    rw [if_pos rfl, xC_R h]
    unfold setB
    rw [if_pos rfl]
  · rw [if_neg e]
    unfold xC setB
    repeat' split
    all_goals first | rfl | omega
theorem xC_setdn (x : Int) (k : Nat) : (if k = 521 then Value.int .i64 x else xC Dv R c buf dn mo mk fl sv k) = xC Dv R c buf x mo mk fl sv k := by
  by_cases e : k = 521
  · subst e; rfl
  · rw [if_neg e]; unfold xC; rw [if_neg e, if_neg e]
theorem xC_setmo (x : Int) (k : Nat) : (if k = 522 then Value.int .i64 x else xC Dv R c buf dn mo mk fl sv k) = xC Dv R c buf dn x mk fl sv k := by
  by_cases e : k = 522
  · subst e; rfl
  · rw [if_neg e]; unfold xC; rw [if_neg e, if_neg e]
theorem xC_setmk (x : Bool) (k : Nat) : (if k = 523 then Value.bool x else xC Dv R c buf dn mo mk fl sv k) = xC Dv R c buf dn mo x fl sv k := by
  by_cases e : k = 523
  · subst e; rfl
  · rw [if_neg e]; unfold xC; rw [if_neg e, if_neg e]
theorem xC_setfl (x : Bool) (k : Nat) : (if k = 524 then Value.bool x else xC Dv R c buf dn mo mk fl sv k) = xC Dv R c buf dn mo mk x sv k := by
  by_cases e : k = 524
  · subst e; rfl
  · rw [if_neg e]; unfold xC; rw [if_neg e, if_neg e]
theorem xC_setsv (x : Value) (k : Nat) (hk : k < 526) : (if k = 525 then x else xC Dv R c buf dn mo mk fl sv k) = xC Dv R c buf dn mo mk fl x k := by
  by_cases e : k = 525
  · subst e; rfl
  · rw [if_neg e]
    unfold xC
    repeat' split
    all_goals first | rfl | omega
theorem xC_same {b' : Nat → Int} (h : ∀ i, i < 512 → buf i = b' i) (k : Nat) : xC Dv R c buf dn mo mk fl sv k = xC Dv R c b' dn mo mk fl sv k := by
  unfold xC
  by_cases a : k < 521
  · by_cases b : 9 ≤ k
    · rw [h _ (by omega)]
    · repeat' split
      all_goals first | rfl | omega
  · repeat' split
    all_goals first | rfl | omega
end
/-- The document's bytes: a slice of a block of their own. -/
def DRow (w : World) (gD cap n : Nat) (D : Nat → Int) : Prop := ∃ cur, w.heap[gD]? = some (.cells cur 5 (0, 0)) ∧ 512 * n ≤ cur.size ∧ ∀ j, j < 512 * n → cur[j]? = some (.int .u8 (D j))
theorem DRow.kept {S : Nat → Prop} {w w' : World} {gD cap n : Nat} {D : Nat → Int} (h : DRow w gD cap n D) (k : Kp S w w') (hS : ¬ S gD) : DRow w' gD cap n D := by
  obtain ⟨cur, h1, h2⟩ := h
  exact ⟨cur, heap_kept h1 k hS, h2⟩
structure XAt (w : World) (B gD cap : Nat) (dn : Int) (sv : Value) (d : Id) : Prop where
  blk : YAt w B (xC (.slice (some ⟨gD, 0, none⟩) (512 * d.n) cap) d.reg d.c d.buf dn d.mode d.mark d.failed sv)
  row : DRow w gD cap d.n d.D
  le : 512 * d.n ≤ cap
  log : OwnI w sv d.log
/-- The bare block. -/
structure XRaw (w : World) (B gD cap n : Nat) (sv : Value) (l : List Int) (D R buf : Nat → Int) (c dn mo : Int) (mk fl : Bool) : Prop where
  blk : YAt w B (xC (.slice (some ⟨gD, 0, none⟩) (512 * n) cap) R c buf dn mo mk fl sv)
  row : DRow w gD cap n D
  le : 512 * n ≤ cap
  log : OwnI w sv l
section
variable {w : World} {B gD cap n : Nat} {sv : Value} {l : List Int} {D R buf : Nat → Int} {c dn mo : Int} {mk fl : Bool}
theorem XRaw.notB (h : XRaw w B gD cap n sv l D R buf c dn mo mk fl) {g : Nat} (e : sv.ownBlock = some g) : ¬ isB B g := by
  rintro (rfl : g = B)
  obtain ⟨cur, h1⟩ := h.log.lt e
  obtain ⟨c, h2, _⟩ := h.blk
  rw [h1] at h2
  simp at h2
theorem XRaw.notD (h : XRaw w B gD cap n sv l D R buf c dn mo mk fl) : ¬ isB B gD := by
  rintro (e : gD = B)
  obtain ⟨cur, h1, _⟩ := h.row
  obtain ⟨c, h2, _⟩ := h.blk
  rw [e, h2] at h1
  simp at h1
theorem XRaw.kept {S : Nat → Prop} {w' : World} (h : XRaw w B gD cap n sv l D R buf c dn mo mk fl) (k : Kp S w w') (hB : ¬ S B) (hD : ¬ S gD) (hs : ∀ g, sv.ownBlock = some g → ¬ S g) : XRaw w' B gD cap n sv l D R buf c dn mo mk fl := ⟨h.blk.kept k hB, h.row.kept k hD, h.le, h.log.kept k hs⟩
theorem XRaw.keep {w' : World} (h : XRaw w B gD cap n sv l D R buf c dn mo mk fl) (k : Kp noB w w') : XRaw w' B gD cap n sv l D R buf c dn mo mk fl := h.kept k id id (fun _ _ => id)
theorem XRaw.own {w' : World} {f : Nat → Value} (h : XRaw w B gD cap n sv l D R buf c dn mo mk fl) (hb : YAt w' B f) (k : Kp (isB B) w w') {R' buf' : Nat → Int} {c' dn' mo' : Int} {mk' fl' : Bool} (e : ∀ k, k < 526 → f k = xC (.slice (some ⟨gD, 0, none⟩) (512 * n) cap) R' c' buf' dn' mo' mk' fl' sv k) : XRaw w' B gD cap n sv l D R' buf' c' dn' mo' mk' fl' :=
  ⟨hb.of e, h.row.kept k h.notD, h.le, h.log.kept k (fun g e => h.notB e)⟩
theorem XRaw.setR (h : XRaw w B gD cap n sv l D R buf c dn mo mk fl) (j : Nat) (hj : j < 7) (k : Nat) (hk : k = 1 + j) (x : Int) : XRaw (w.setCell ⟨B, k, none⟩ (.int .u8 x)) B gD cap n sv l D (setB R j x) buf c dn mo mk fl := by
  subst hk
  exact h.own (h.blk.set _ (by omega) _) (kpB B _ _ _) (fun i hi => xC_setR hj x i)
theorem XRaw.setdn (h : XRaw w B gD cap n sv l D R buf c dn mo mk fl) (x : Int) : XRaw (w.setCell ⟨B, 521, none⟩ (.int .i64 x)) B gD cap n sv l D R buf c x mo mk fl :=
  h.own (h.blk.set _ (by decide) _) (kpB B _ _ _) (fun i hi => xC_setdn x i)
theorem XRaw.setmo (h : XRaw w B gD cap n sv l D R buf c dn mo mk fl) (x : Int) : XRaw (w.setCell ⟨B, 522, none⟩ (.int .i64 x)) B gD cap n sv l D R buf c dn x mk fl :=
  h.own (h.blk.set _ (by decide) _) (kpB B _ _ _) (fun i hi => xC_setmo x i)
theorem XRaw.setmk (h : XRaw w B gD cap n sv l D R buf c dn mo mk fl) (x : Bool) : XRaw (w.setCell ⟨B, 523, none⟩ (.bool x)) B gD cap n sv l D R buf c dn mo x fl :=
  h.own (h.blk.set _ (by decide) _) (kpB B _ _ _) (fun i hi => xC_setmk x i)
theorem XRaw.setfl (h : XRaw w B gD cap n sv l D R buf c dn mo mk fl) (x : Bool) : XRaw (w.setCell ⟨B, 524, none⟩ (.bool x)) B gD cap n sv l D R buf c dn mo mk x :=
  h.own (h.blk.set _ (by decide) _) (kpB B _ _ _) (fun i hi => xC_setfl x i)
theorem XRaw.same {b' : Nat → Int} (h : XRaw w B gD cap n sv l D R buf c dn mo mk fl) (e : ∀ i, i < 512 → buf i = b' i) : XRaw w B gD cap n sv l D R b' c dn mo mk fl := ⟨h.blk.of (fun k hk => xC_same e k), h.row, h.le, h.log⟩
theorem XRaw.setsv (h : XRaw w B gD cap n sv l D R buf c dn mo mk fl) (x : Value) (l' : List Int) (hx : OwnI w x l') : XRaw (w.setCell ⟨B, 525, none⟩ x) B gD cap n x l' D R buf c dn mo mk fl :=
  ⟨(h.blk.set _ (by decide) _).of (fun i hi => xC_setsv x i hi), h.row.kept (kpB B _ _ _) h.notD, h.le, hx.kept (kpB B _ _ _) (fun g e => by
    rintro (rfl : g = B)
    obtain ⟨cur, h1⟩ := hx.lt e
    obtain ⟨c, h2, _⟩ := h.blk
    rw [h1] at h2
    simp at h2)⟩
end
section
variable {w : World} {B gD cap : Nat} {dn : Int} {sv : Value} {d : Id}
theorem XAt.raw (h : XAt w B gD cap dn sv d) : XRaw w B gD cap d.n sv d.log d.D d.reg d.buf d.c dn d.mode d.mark d.failed := ⟨h.blk, h.row, h.le, h.log⟩
theorem XRaw.id {n : Nat} {l : List Int} {D R buf : Nat → Int} {c mo : Int} {mk fl : Bool} (h : XRaw w B gD cap n sv l D R buf c dn mo mk fl) (d : Id) (hl : l = d.log) (hD : D = d.D) (hn : n = d.n) (hR : ∀ j, j < 7 → R j = d.reg j) (hb : buf = d.buf) (hc : c = d.c) (hg : mo = d.mode) (hm : mk = d.mark) (hf : fl = d.failed) : XAt w B gD cap dn sv d := by
  subst hl; subst hD; subst hn; subst hb; subst hc; subst hg; subst hm; subst hf
  refine ⟨h.blk.of fun k hk => ?_, h.row, h.le, h.log⟩
  by_cases q : 1 ≤ k ∧ k < 8
  · obtain ⟨j, rfl⟩ : ∃ j, k = 1 + j := ⟨k - 1, by omega⟩
    rw [xC_R (by omega), xC_R (by omega), hR j (by omega)]
  · unfold xC
    repeat' split
    all_goals first | rfl | omega
theorem XAt.keep {w' : World} (h : XAt w B gD cap dn sv d) (k : Kp noB w w') : XAt w' B gD cap dn sv d := ⟨h.blk.kept k id, h.row.kept k id, h.le, h.log.kept k (fun _ _ => id)⟩
theorem XAt.lt (h : XAt w B gD cap dn sv d) : B < w.heap.size := h.blk.lt
theorem XAt.fz (h : XAt w B gD cap dn sv d) (k : Nat) : w.frozen? ⟨B, k, none⟩ = false := h.blk.fz k
theorem XAt.c0 (h : XAt w B gD cap dn sv d) : w.cell? ⟨B, 0, none⟩ = some (.slice (some ⟨gD, 0, none⟩) (512 * d.n) cap) := h.blk.cell 0 (by decide)
theorem XAt.cr (h : XAt w B gD cap dn sv d) (j : Nat) (hj : j < 7) : w.cell? ⟨B, 1 + j, none⟩ = some (.int .u8 (d.reg j)) := by rw [h.blk.cell _ (by omega), xC_R hj]
theorem XAt.r0 (h : XAt w B gD cap dn sv d) : w.cell? ⟨B, 1, none⟩ = some (.int .u8 0) := h.cr 0 (by decide)
theorem XAt.r1 (h : XAt w B gD cap dn sv d) : w.cell? ⟨B, 2, none⟩ = some (.int .u8 d.r1) := h.cr 1 (by decide)
theorem XAt.r2 (h : XAt w B gD cap dn sv d) : w.cell? ⟨B, 3, none⟩ = some (.int .u8 d.r2) := h.cr 2 (by decide)
theorem XAt.r3 (h : XAt w B gD cap dn sv d) : w.cell? ⟨B, 4, none⟩ = some (.int .u8 d.r3) := h.cr 3 (by decide)
theorem XAt.r4 (h : XAt w B gD cap dn sv d) : w.cell? ⟨B, 5, none⟩ = some (.int .u8 d.r4) := h.cr 4 (by decide)
theorem XAt.r5 (h : XAt w B gD cap dn sv d) : w.cell? ⟨B, 6, none⟩ = some (.int .u8 d.r5) := h.cr 5 (by decide)
theorem XAt.r6 (h : XAt w B gD cap dn sv d) : w.cell? ⟨B, 7, none⟩ = some (.int .u8 d.r6) := h.cr 6 (by decide)
theorem XAt.cc (h : XAt w B gD cap dn sv d) : w.cell? ⟨B, 8, none⟩ = some (.int .u8 d.c) := h.blk.cell 8 (by decide)
theorem XAt.cb (h : XAt w B gD cap dn sv d) (j : Nat) (hj : j < 512) : w.cell? ⟨B, 9 + j, none⟩ = some (.int .u8 (d.buf j)) := by rw [h.blk.cell _ (by omega), xC_b hj]
theorem XAt.cdn (h : XAt w B gD cap dn sv d) : w.cell? ⟨B, 521, none⟩ = some (.int .i64 dn) := h.blk.cell 521 (by decide)
theorem XAt.cmo (h : XAt w B gD cap dn sv d) : w.cell? ⟨B, 522, none⟩ = some (.int .i64 d.mode) := h.blk.cell 522 (by decide)
theorem XAt.cmk (h : XAt w B gD cap dn sv d) : w.cell? ⟨B, 523, none⟩ = some (.bool d.mark) := h.blk.cell 523 (by decide)
theorem XAt.cfl (h : XAt w B gD cap dn sv d) : w.cell? ⟨B, 524, none⟩ = some (.bool d.failed) := h.blk.cell 524 (by decide)
theorem XAt.csv (h : XAt w B gD cap dn sv d) : w.cell? ⟨B, 525, none⟩ = some sv := h.blk.cell 525 (by decide)
end
/-- Behind a call that touches its own blocks. -/
def XOk (w : World) (B gD cap : Nat) (sv : Value) (d : Id) (w' : World) : Prop := ∃ dn', XAt w' B gD cap dn' sv d ∧ Dn d dn' ∧ Kp (isB B) w w'
/-- The blocks that it owns. -/
def footX (B gD : Nat) (sv : Value) (k : Nat) : Prop := k = B ∨ k = gD ∨ sv.ownBlock = some k
def XOut (w : World) (B gD cap : Nat) (sv : Value) (d : Id) (w' : World) : Prop :=
  ∃ dn' sv', XAt w' B gD cap dn' sv' d ∧ Dn d dn' ∧ (∀ k, footX B gD sv' k → footX B gD sv k ∨ w.heap.size ≤ k) ∧ Kp (footX B gD sv) w w'
end Go.Proofs.YtclejmdmbanedaaGreat.Dk
namespace Go.Proofs.YtclejmdmbanedaaGreat.Dk
open Go.ChangeShapes Go.WideShapes Go.ChangeAt Go.RowKit
set_option linter.unusedVariables false
set_option maxRecDepth 20000
section
variable {w : World} {B gD cap : Nat} {dn : Int} {sv : Value} {d : Id}
theorem xfresh_ok (h : XAt w B gD cap dn sv d) : Calls Tryz.prog 81 #[.pointer (some ⟨B, 0, none⟩)] w fun e w' => e = .returned (.tuple #[]) ∧ XOk w B gD cap sv d.fresh w' := by
  have c0 := h.r0
  have c1 := h.r1
  have c2 := h.r2
  have c3 := h.r3
  have c4 := h.r4
  have c5 := h.r5
  have c6 := h.r6
  have cd := h.cdn
  have cf := h.cfl
  have cg := h.cmo
  have cm := h.cmk
  have y0 := h.fz 1
  have y1 := h.fz 2
  have y2 := h.fz 3
  have y3 := h.fz 4
  have y4 := h.fz 5
  have y5 := h.fz 6
  have y6 := h.fz 7
  have y7 := h.fz 521
  have y8 := h.fz 522
  have y9 := h.fz 523
  have ya := h.fz 524
  have hC : Hid (XAt w B gD cap dn sv d) := h
  clear h
  go_enter Tryz.func81, Tryz.ntmps81
  go_wp2
  go_end0
  refine ⟨rfl, 0, ?_, Dn.none rfl, ?_⟩
  · refine (((((((((((hC.out.raw.setR 0 (by decide) 1 rfl 0).setR 1 (by decide) 2 rfl 1).setR 2 (by decide) 3 rfl 1).setR 3 (by decide) 4 rfl 1).setR 4 (by decide) 5 rfl 0).setR 5 (by decide) 6 rfl 0).setR 6 (by decide) 7 rfl 0).setmo 0).setdn 0).setmk false).setfl false).id _ rfl rfl rfl (fun j hj => ?_) rfl rfl rfl rfl rfl
    rcases (by omega : j = 0 ∨ j = 1 ∨ j = 2 ∨ j = 3 ∨ j = 4 ∨ j = 5 ∨ j = 6) with rfl | rfl | rfl | rfl | rfl | rfl | rfl <;> rfl
  · exact (((((((((((kpB B _ _ _).trans (kpB B _ _ _)).trans (kpB B _ _ _)).trans (kpB B _ _ _)).trans (kpB B _ _ _)).trans (kpB B _ _ _)).trans (kpB B _ _ _)).trans (kpB B _ _ _)).trans (kpB B _ _ _)).trans (kpB B _ _ _)).trans (kpB B _ _ _))
theorem XOk.over {w1 w2 : World} {d' : Id} (k : Kp noB w w1) (h : XOk w1 B gD cap sv d' w2) : XOk w B gD cap sv d' w2 := by
  obtain ⟨dn', h1, hd, h2⟩ := h
  exact ⟨dn', h1, hd, k.any.trans h2⟩
end
end Go.Proofs.YtclejmdmbanedaaGreat.Dk
namespace Go.Proofs.YtclejmdmbanedaaGreat.Dk
open Go.ChangeShapes Go.WideShapes Go.ChangeAt Go.RowKit
set_option linter.unusedVariables false
set_option maxRecDepth 20000
section
variable {w : World} {B gD cap : Nat} {dn : Int} {sv : Value} {d : Id}
theorem Kp.footX {w' : World} (h : Kp (isB B) w w') : Kp (footX B gD sv) w w' := h.mono fun k _ e => .inl e
theorem XOk.out {w' : World} (h : XOk w B gD cap sv d w') : XOut w B gD cap sv d w' := by
  obtain ⟨dn', h1, hd, h2⟩ := h
  exact ⟨dn', sv, h1, hd, fun _ g => .inl g, h2.footX⟩
theorem XOut.then {w1 w2 : World} {sv1 : Value} {d' : Id} (hf : ∀ k, footX B gD sv1 k → footX B gD sv k ∨ w.heap.size ≤ k) (k1 : Kp (footX B gD sv) w w1) (h : XOut w1 B gD cap sv1 d' w2) : XOut w B gD cap sv d' w2 := by
  obtain ⟨dn', sv', h1, hd, h2, h3⟩ := h
  refine ⟨dn', sv', h1, hd, fun k g => ?_, k1.over h3 fun j hj g => ?_⟩
  · rcases h2 k g with e | e
    · exact hf k e
    · exact .inr (Nat.le_trans k1.size e)
  · rcases hf j g with e | e
    · exact e
    · omega
end
end Go.Proofs.YtclejmdmbanedaaGreat.Dk
namespace Go.Proofs.YtclejmdmbanedaaGreat.Dk
open Go.ChangeShapes Go.WideShapes Go.ChangeAt Go.RowKit
set_option linter.unusedVariables false
set_option maxRecDepth 20000
section
variable {w : World} {B gD cap : Nat} {dn : Int} {sv : Value} {d : Id}
theorem XOut.refl (h : XAt w B gD cap dn sv d) (hd : Dn d dn) : XOut w B gD cap sv d w := XOk.out ⟨dn, h, hd, Kp.refl _ _⟩
theorem xline_ok (h : XAt w B gD cap dn sv d) (k : d.Ok) : Calls Tryz.prog 85 #[.pointer (some ⟨B, 0, none⟩)] w fun e w' => e = .returned (.bool d.line) ∧ w' = w := by
  have cm := h.cmk
  have c8 := h.cc
  obtain ⟨c0, c1⟩ := k.c
  clear h k
  unfold Id.line
  generalize d.c = c at *
  cases q : d.mark
  · rw [q] at cm
    clear q
    go_enter Tryz.func85, Tryz.ntmps85
    go_wp2
    go_ret
    exact ⟨rfl, rfl⟩
  · rw [q] at cm
    clear q
    have e : (true && !(c / 2 % 2 == 1)) = (c / 2 % 2 == 0) := by
      rcases (by omega : c / 2 % 2 = 0 ∨ c / 2 % 2 = 1) with a | a <;> rw [a] <;> rfl
    rw [e]
    clear e
    go_enter Tryz.func85, Tryz.ntmps85
    go_wp2
    go_ret
    exact ⟨rfl, rfl⟩
end
end Go.Proofs.YtclejmdmbanedaaGreat.Dk
namespace Go.Proofs.YtclejmdmbanedaaGreat.Dk
open Go.ChangeShapes Go.WideShapes Go.ChangeAt Go.RowKit
set_option linter.unusedVariables false
set_option maxRecDepth 20000
/-- Bytes joined to none: a block of their own. -/
theorem app_new {w : World} (g0 : Nat) {a : Option Addr} {L : Nat} (c : Nat) {bt : Nat → Int} (h0 : w.heap[g0]? = some (.cells #[] 5 (0, 0))) (hB : BytAt w a L bt) (hL : L ≤ 140737488355328) :
    ∃ g cap w', (Builtin.append_ #[22, 22] 22 #[.slice (some ⟨g0, 0, none⟩) 0 0, .slice a L c]).run Tryz.prog w = .ok (.slice (some ⟨g, 0, none⟩) L cap) w' ∧ L ≤ cap ∧ (∃ cur, w'.heap[g]? = some (.cells cur 5 (0, 0)) ∧ L ≤ cur.size ∧ ∀ j, j < L → cur[j]? = some (.int .u8 (bt j))) ∧ Kp noB w w' ∧ (g = g0 ∨ w.heap.size ≤ g) := by
  have u : ∀ w, (underlying 22).run Tryz.prog w = .ok (.slice 5) w := fun w => by kernel_rfl
  have s : ∀ w, (sizeOf 5).run Tryz.prog w = .ok 1 w := fun w => by kernel_rfl
  rcases Nat.eq_zero_or_pos L with rfl | hp
  · refine ⟨g0, 0, w, ?_, Nat.le_refl _, ⟨_, h0, Nat.le_refl _, fun j hj => by omega⟩, Kp.refl _ _, .inl rfl⟩
    cases a
    · simp [Builtin.append_, u, s, Builtin.lenOf, Builtin.firstCells, storeCells]
    · simp [Builtin.append_, u, s, Builtin.lenOf, Builtin.firstCells, storeCells, loadCells, loadCellsFrom]
  · obtain ⟨b, o, rfl, hb, _⟩ := hB 0 hp
    have hcell : ∀ j, j < L → w.cell? ⟨b, o + j, none⟩ = some (.int .u8 (bt j)) := fun j hj => by
      obtain ⟨b', o', e, _, hc⟩ := hB j hj
      injection e with e
      injection e with e1 e2
      subst e1; subst e2
      exact hc
    obtain ⟨i, hi, hz, hs, hby⟩ := info_of info8
    have hn : Builtin.nextslicecap (0 + L) 0 = L := by
      unfold Builtin.nextslicecap
      simp
      omega
    have hlen : ((List.range L).map (fun j => Value.int .u8 (bt j))).length = L := by simp
    have hget : ∀ j, j < L → ((List.range L).map (fun j => Value.int .u8 (bt j)))[j]? = some (.int .u8 (bt j)) := by
      intro j hj
      rw [List.getElem?_map, List.getElem?_range hj]
      rfl
    have e := run_append_grow (P := Tryz.prog) (w := w) 22 22 5 i (.int .u8 0) Tryz.underlying22 hi hz ⟨g0, 0, none⟩ 0 0 [] (by simp) (by simp) ⟨b, o, none⟩ L c ((List.range L).map (fun j => Value.int .u8 (bt j))) (by rw [hlen, hs, Nat.mul_one]) (fun j v hv => by
      have hj : j < L := by
        have := (List.getElem?_eq_some_iff.1 hv).1
        rwa [hlen] at this
      rw [hget j hj] at hv
      rw [← hv, Addr.add_mid]
      exact hcell j hj) (by omega) (by omega) (by rw [hn, hby]; omega)
    rw [Nat.zero_add] at e
    refine ⟨w.heap.size, _, _, e, grownCap_ge _ _ _ _, ⟨_, heap_new w.drew _, ?_, fun j hj => ?_⟩, (Kp.refl _ _).drew.trans (Kp.alloc _ _ _), .inr (Nat.le_refl _)⟩
    · simp
    · rw [Array.getElem?_append_left (by simp; omega)]
      simp [hj]
/-- At a plain region's list: the append whose answer is known. -/
theorem wpList_app {ops : Array Oper} {rest : List Oper} {o : Oper} {a : Act} {w w' : World} {Q : Exit → Act → World → Prop} {v v' x : Value} (hgd : o.guard = none) (s y : Operand)
    (ho : o.op = .call { callee := .builtin .append, args := #[s, y], argTypes := #[22, 22] }) (hty : o.type = 22) (hs : a.eval s = v) (hx : a.eval y = x)
    (hr : (Builtin.append_ #[22, 22] 22 #[v, x]).run Tryz.prog w = .ok v' w') (h : wpList Tryz.prog ops Q rest (a.put o.dst v') w') : wpList Tryz.prog ops Q (o :: rest) a w := by
  refine wpList_plain hgd fun K hK => ?_
  unfold Oper.wp execOp
  simp only [ho, hty, resolve, invoke, builtin, Sem.run_bind, Sem.run_pure, Result.andThen_ok, List.map_toArray, List.map_cons, List.map_nil, hs, hx, hr]
  exact hK _ _ h
def zX : Array Value := (Value.slice none 0 0 :: zp 520 [.int .i64 0, .int .i64 0, .bool false, .bool false, .slice none 0 0]).toArray
theorem zX_size : zX.size = 526 := by
  unfold zX
  rw [List.size_toArray, List.length_cons, zp_len]
  rfl
theorem zX_get {k : Nat} (hk : k < 526) : zX[k]? = some (xC (.slice none 0 0) (fun _ => 0) 0 (fun _ => 0) 0 0 false false (.slice none 0 0) k) := by
  unfold zX
  rw [List.getElem?_toArray]
  rcases Nat.eq_zero_or_pos k with rfl | hp
  · rfl
  · obtain ⟨j, rfl⟩ : ∃ j, k = j + 1 := ⟨k - 1, by omega⟩
    rw [List.getElem?_cons_succ, zp_get]
    by_cases c : j < 520
    · rw [if_pos c]
      unfold xC
      repeat' split
      all_goals first | rfl | omega
    · rw [if_neg c]
      rcases (by omega : j = 520 ∨ j = 521 ∨ j = 522 ∨ j = 523 ∨ j = 524) with rfl | rfl | rfl | rfl | rfl <;> rfl
theorem zeroX (w : World) : (zeroValue 110).run Tryz.prog w = .ok (.agg zX) w := by
  simp [zeroValue, typeInfo, show Tryz.prog.info? 110 = some Tryz.t110 from Tryz.type110, zero45, zX]
theorem placesX : ∃ fs ps, (∀ w, (underlying 110).run Tryz.prog w = .ok (.struct fs) w) ∧ (∀ w, (Array.mapM (fun f : Field => Prod.mk f.offset <$> sizeOf f.type) fs).run Tryz.prog w = .ok ps w) ∧ ps = #[(0, 1), (1, 7), (8, 1), (9, 512), (521, 1), (522, 1), (523, 1), (524, 1), (525, 1)] :=
  ⟨(match Tryz.prog.underlying 110 with | some (.struct f) => f | _ => #[]), #[(0, 1), (1, 7), (8, 1), (9, 512), (521, 1), (522, 1), (523, 1), (524, 1), (525, 1)], fun w => by kernel_rfl, fun w => by kernel_rfl, rfl⟩
structure VlX (T : TypeId) (Z : Array Value) (fs : Array Field) (ps : Array (Nat × Nat)) : Prop where
  t : T = 110
  z : Z = zX
  zero : ∀ w, (zeroValue T).run Tryz.prog w = .ok (.agg Z) w
  under : ∀ w, (underlying T).run Tryz.prog w = .ok (.struct fs) w
  map : ∀ w, (Array.mapM (fun f : Field => Prod.mk f.offset <$> sizeOf f.type) fs).run Tryz.prog w = .ok ps w
  place : ps = #[(0, 1), (1, 7), (8, 1), (9, 512), (521, 1), (522, 1), (523, 1), (524, 1), (525, 1)]
  zs : Z.size = 526
theorem vlX : ∃ T Z fs ps, VlX T Z fs ps := by
  obtain ⟨fs, ps, h1, h2, h3⟩ := placesX
  exact ⟨_, _, fs, ps, rfl, rfl, zeroX, h1, h2, h3, zX_size⟩
theorem VlX.ops {T : TypeId} {Z : Array Value} {fs : Array Field} {ps : Array (Nat × Nat)} (h : VlX T Z fs ps) : (∀ x, Op.build 110 x = Op.build T x) ∧ (∀ x, Op.box 110 x = Op.box T x) := by
  rw [h.t]
  exact ⟨fun _ => rfl, fun _ => rfl⟩
theorem xnew_at {T : TypeId} {Z : Array Value} {fs : Array Field} {ps : Array (Nat × Nat)} (V : VlX T Z fs ps) {w : World} {gD cap n : Nat} {D : Nat → Int} (hr : DRow w gD cap n D) (hc : 512 * n ≤ cap) : XAt (w.alloc (.cells (Z.setIfInBounds 0 (.slice (some ⟨gD, 0, none⟩) (512 * n) cap)) T)) w.heap.size gD cap 0 (.slice none 0 0) { id0 n D with r1 := 0, r2 := 0, r3 := 0 } := by
  refine ⟨⟨_, by rw [heap_new, V.t], ?_, fun k hk => ?_⟩, hr.kept (Kp.alloc noB _ _) id, hc, OwnI.nil _⟩
  · rw [Array.size_setIfInBounds, V.z, zX_size]
  · rw [V.z, Array.getElem?_setIfInBounds]
    by_cases e : 0 = k
    · subst e
      rw [if_pos rfl, if_pos (by rw [zX_size]; decide)]
      rfl
    · rw [if_neg e, zX_get hk]
      have e' : ¬ k = 0 := fun g => e g.symm
      have hR : (fun _ : Nat => (0 : Int)) = ({ id0 n D with r1 := 0, r2 := 0, r3 := 0 } : Id).reg := by
        funext j
        unfold Id.reg id0
        simp only
        repeat' split
        all_goals rfl
      rw [← hR]
      unfold xC
      simp only [if_neg e']
      rfl
/-- A new disk of the document's. -/
def XNew (w : World) (L : Nat) (bt : Nat → Int) (R : Nat) (w' : World) : Prop := ∃ gD cap dn, XAt w' R gD cap dn (.slice none 0 0) (id0 (L / 512) (dB L bt)) ∧ Dn (id0 (L / 512) (dB L bt)) dn ∧ w.heap.size ≤ R ∧ w.heap.size ≤ gD ∧ Kp noB w w'
theorem xnew_ok (w : World) (a : Option Addr) (L c : Nat) (bt : Nat → Int) (hb : BytAt w a L bt) (h1 : L % 512 = 0) (h2 : L ≤ 32768) : Calls Tryz.prog 37 #[.slice a L c] w fun e w' => ∃ R, e = .returned (.tuple #[.pointer (some ⟨R, 0, none⟩), .int .i64 0]) ∧ XNew w L bt R w' := by
  obtain ⟨T, Z, fs, ps, V⟩ := vlX
  have q1 : ((L : Int) % 512 != 0) = false := by rw [bne_eq_false_iff_eq]; omega
  have q2 : decide ((L : Int) > 32768) = false := by simp; omega
  obtain ⟨w1, e1⟩ : ∃ w1, w1 = w.alloc (.cells #[] 5) := ⟨_, rfl⟩
  have k1 : Kp noB w w1 := by rw [e1]; exact Kp.alloc _ _ _
  obtain ⟨g, cap, w2, hap, hc, ⟨cur, g1, g2, g3⟩, k2, hg⟩ := app_new (w := w1) w.heap.size c (by rw [e1]; exact heap_new _ _) (hb.kept k1 (fun _ _ => id)) (by omega)
  have eL : 512 * (L / 512) = L := by omega
  have hr : DRow w2 g cap (L / 512) (dB L bt) := ⟨cur, g1, by omega, fun j hj => by
    unfold dB
    rw [if_pos (by omega)]
    exact g3 j (by omega)⟩
  have h3 := xnew_at V hr (by omega)
  rw [eL] at h3
  obtain ⟨R, hR⟩ : ∃ R, R = w2.heap.size := ⟨_, rfl⟩
  have HS : Hid _ := xfresh_ok h3
  have ef : ({ id0 (L / 512) (dB L bt) with r1 := 0, r2 := 0, r3 := 0 } : Id).fresh = id0 (L / 512) (dB L bt) := rfl
  rw [ef] at HS
  have HF : Hid (∀ w3, XOk (w2.alloc (.cells (Z.setIfInBounds 0 (.slice (some ⟨g, 0, none⟩) L cap)) T)) w2.heap.size g cap (.slice none 0 0) (id0 (L / 512) (dB L bt)) w3 → XNew w L bt w2.heap.size w3) := by
    rintro w3 ⟨dn, h4, d4, k4⟩
    have kk := k1.trans k2
    refine ⟨g, cap, dn, h4, d4, kk.size, ?_, (kk.trans (Kp.alloc _ _ _)).over k4 (fun j hj (e : j = _) => by have := kk.size; omega)⟩
    have := k1.size
    omega
  have o1 := V.ops
  have v1 := V.zero
  have v2 := V.under
  have v3 := V.map
  rw [V.place] at v3
  have v5 := V.zs
  have v6 : ¬ Z = #[] := by rintro rfl; cases v5
  rw [e1] at hap
  have Hap : Hid _ := hap
  clear hap g1 g2 g3 k1 k2 V hb h1 h2 e1 h3 hr hg ef eL hc hR
  go_enter Tryz.func37, Tryz.ntmps37
  simp only [o1.1, o1.2]
  go_wp2_with (first
    | (at_builtin; refine wpList_app rfl _ _ rfl rfl rfl rfl Hap.out ?_))
  refine Calls.mono HS.out ?_; rintro e w3 ⟨rfl, h3⟩
  have H : Hid (XNew w L bt w2.heap.size w3) := HF.out _ h3
  clear h3 HS HF Hap
  go_wp2
  go_ret2
  exact ⟨_, rfl, H.out⟩
end Go.Proofs.YtclejmdmbanedaaGreat.Dk
