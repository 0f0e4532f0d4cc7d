/- The disk's calls, as they are seen from outside: which blocks are its own. -/
import Derived.Test.YtddalplpmgmplaaIdNew
namespace Go.Proofs.Ytddalplpmgmplaa
open Go.ChangeShapes Go.WideShapes Go.ChangeAt Go.RowKit
set_option linter.unusedVariables false

/-- What a register and a size are answered. -/
def ck (reg size : Int) : Int := if reg < 0 ∨ 9 ≤ reg then 1 else if reg = 0 ∧ size ≠ 1 ∧ size ≠ 2 ∧ size ≠ 4 then 2 else 0
theorem chk_ck (a : Addr) (reg size : Int) : chkV (some a) reg size = ck reg size := by
  unfold chkV ck
  simp
theorem chk_nil (reg size : Int) : chkV none reg size = 1 := by unfold chkV; rw [if_pos (.inl rfl)]

/-- Out and In, with what is refused. -/
def Id.o (d : Id) (reg size v : Int) : Id := if ck reg size = 0 then d.out reg size.toNat v else d
def Id.iV (d : Id) (reg size : Int) : Int := if ck reg size = 0 then d.inV reg size.toNat else 0
def Id.i (d : Id) (reg size : Int) : Id := if ck reg size = 0 then d.inn reg size.toNat else d

theorem Id.Ok.o {d : Id} (k : d.Ok) (reg size v : Int) : (d.o reg size v).Ok := by
  unfold Id.o
  split
  · exact k.out _ _ _
  · exact k
theorem Id.Ok.i {d : Id} (k : d.Ok) (reg size : Int) : (d.i reg size).Ok := by
  unfold Id.i
  split
  · exact k.inn _ _
  · exact k

theorem size_4 {reg size : Int} (h : ck reg size = 0) (d : Id) (k : d.Ok) (v : Int) : (d.out reg size.toNat v).work ≤ d.work + 4 := by
  by_cases e : reg = 0
  · subst e
    have hs : size = 1 ∨ size = 2 ∨ size = 4 := by
      unfold ck at h
      rw [if_neg (by omega)] at h
      split at h
      · cases h
      · omega
    have := out_work d k 0 size.toNat v
    omega
  · have := out_work d k reg 0 v
    have e2 : d.out reg size.toNat v = d.out reg 0 v := by unfold Id.out; rw [if_neg e, if_neg e]
    rw [e2]
    omega

theorem o_work {d : Id} (k : d.Ok) (reg size v : Int) : (d.o reg size v).work ≤ d.work + 4 := by
  unfold Id.o
  split
  · exact size_4 ‹_› d k v
  · omega
theorem i_work (d : Id) (reg size : Int) : (d.i reg size).work ≤ d.work := by
  unfold Id.i
  split
  · exact inn_work d _ _
  · omega

/-- From S to S': nothing outside S was touched, what is new in S' was not there. -/
structure Nxt (w : World) (S : Nat → Prop) (w' : World) (S' : Nat → Prop) : Prop where
  sub : ∀ k, S' k → S k ∨ w.heap.size ≤ k
  kp : Kp S w w'

theorem Nxt.trans {a b c : World} {S T U : Nat → Prop} (h : Nxt a S b T) (k : Nxt b T c U) : Nxt a S c U :=
  ⟨fun j hj => by
    rcases k.sub j hj with g | g
    · exact h.sub j g
    · exact .inr (Nat.le_trans h.kp.size g), h.kp.over k.kp fun j hj g => by
    rcases h.sub j g with e | e
    · exact e
    · omega⟩

theorem Nxt.refl (w : World) (S : Nat → Prop) : Nxt w S w S := ⟨fun _ f => .inl f, Kp.refl _ _⟩

/-- A disk whose blocks all lie in S. -/
structure IW (w : World) (S : Nat → Prop) (B : Nat) (d : Id) : Prop where
  ex : ∃ dn sv, IAt w B dn sv d ∧ Dn d dn ∧ ∀ k, foot B sv k → S k
  lt : ∀ k, S k → k < w.heap.size

theorem IW.kept {w w' : World} {S T : Nat → Prop} {B : Nat} {d : Id} (h : IW w S B d) (k : Kp T w w') (hS : ∀ k, S k → ¬ T k) : IW w' S B d := by
  obtain ⟨dn, sv, h1, hd, h2⟩ := h.ex
  exact ⟨⟨dn, sv, h1.kept k (hS _ (h2 _ (.inl rfl))) (fun g e => hS _ (h2 _ (.inr e))), hd, h2⟩, fun j hj => Nat.lt_of_lt_of_le (h.lt j hj) k.size⟩

theorem IW.keep {w w' : World} {S : Nat → Prop} {B : Nat} {d : Id} (h : IW w S B d) (k : Kp noB w w') : IW w' S B d := h.kept k (fun _ _ => id)

def INx (w : World) (S : Nat → Prop) (B : Nat) (d : Id) (w' : World) : Prop := ∃ S', IW w' S' B d ∧ Nxt w S w' S'

/-- All of S is new since W. -/
structure Bs (W w : World) (S : Nat → Prop) : Prop where
  new : ∀ k, S k → W.heap.size ≤ k
  kp : Kp noB W w

theorem Bs.next {W w w' : World} {S S' : Nat → Prop} (h : Bs W w S) (n : Nxt w S w' S') : Bs W w' S' :=
  ⟨fun k hk => by
    rcases n.sub k hk with g | g
    · exact h.new k g
    · exact Nat.le_trans h.kp.size g, h.kp.over n.kp (fun j hj g => by have := h.new j g; omega)⟩

theorem Bs.keep {W w w' : World} {S : Nat → Prop} (h : Bs W w S) (k : Kp noB w w') : Bs W w' S := ⟨h.new, h.kp.trans k⟩

/-- A block that lies aside. -/
structure Far (w : World) (S : Nat → Prop) (b : Nat) : Prop where
  lt : b < w.heap.size
  out : ¬ S b

theorem Far.next {w w' : World} {S S' : Nat → Prop} {b : Nat} (h : Far w S b) (n : Nxt w S w' S') : Far w' S' b :=
  ⟨Nat.lt_of_lt_of_le h.lt n.kp.size, fun g => by
    rcases n.sub b g with e | e
    · exact h.out e
    · have := h.lt; omega⟩

theorem Far.keep {w w' : World} {S T : Nat → Prop} {b : Nat} (h : Far w S b) (k : Kp T w w') : Far w' S b := ⟨Nat.lt_of_lt_of_le h.lt k.size, h.out⟩

theorem Far.heap {w w' : World} {S S' : Nat → Prop} {b : Nat} {o : Obj} (h : Far w S b) (n : Nxt w S w' S') (g : w.heap[b]? = some o) : w'.heap[b]? = some o := heap_kept g n.kp h.out

/-- Ints that lie aside. -/
structure AsideI (w : World) (S : Nat → Prop) (v : Value) (l : List Int) : Prop where
  own : OwnI w v l
  out : ∀ g, v.ownBlock = some g → ¬ S g

theorem AsideI.next {w w' : World} {S S' : Nat → Prop} {v : Value} {l : List Int} (h : AsideI w S v l) (n : Nxt w S w' S') : AsideI w' S' v l :=
  ⟨h.own.kept n.kp h.out, fun g e gS => by
    rcases n.sub g gS with f | f
    · exact h.out g e f
    · obtain ⟨cur, hc⟩ := h.own.lt e
      have := heap_lt hc
      omega⟩

section
variable {w : World} {S : Nat → Prop} {B : Nat} {d : Id}

theorem foot_lt {dn : Int} {sv : Value} (h : IAt w B dn sv d) {k : Nat} (g : foot B sv k) : k < w.heap.size := by
  rcases g with rfl | g
  · exact h.lt
  · obtain ⟨cur, e⟩ := h.log.lt g
    exact heap_lt e

theorem INx.mk {w' : World} {dn' : Int} {sv' : Value} {d' : Id} (h' : IAt w' B dn' sv' d') (hd : Dn d' dn') (hf : ∀ k, foot B sv' k → S k ∨ w.heap.size ≤ k) (kp : Kp S w w') : INx w S B d' w' :=
  ⟨fun k => k < w'.heap.size ∧ (S k ∨ w.heap.size ≤ k), ⟨⟨dn', sv', h', hd, fun k g => ⟨foot_lt h' g, hf k g⟩⟩, fun k g => g.1⟩, ⟨fun k g => g.2, kp⟩⟩

theorem INx.same {w' : World} (h : IW w S B d) (e : w' = w) : INx w S B d w' := by
  subst e
  exact ⟨S, h, Nxt.refl _ _⟩

theorem wOut (h : IW w S B d) (k : d.Ok) (reg size v : Int) (v0 : 0 ≤ v) (v1 : v < 4294967296) (hw : d.work + 4 < 9007199254740992) : Calls Try.prog 7 #[.pointer (some ⟨B, 0, none⟩), .int .i64 reg, .int .i64 size, .int .u32 v] w fun e w' => e = .returned (.int .i64 (ck reg size)) ∧ INx w S B (d.o reg size v) w' := by
  obtain ⟨dn, sv, h1, hd, h2⟩ := h.ex
  by_cases g : ck reg size = 0
  · have e : d.o reg size v = d.out reg size.toNat v := by unfold Id.o; rw [if_pos g]
    rw [g, e]
    refine (out_ok h1 hd k reg size v v0 v1 hw (by rw [chk_ck]; exact g)).mono fun e w' ⟨a, dn', sv', b1, bd, b2, b3⟩ => ⟨a, INx.mk b1 bd (fun j hj => ?_) (b3.mono fun j _ hj => h2 j hj)⟩
    rcases b2 j hj with f | f
    · exact .inl (h2 j f)
    · exact .inr f
  · have e : d.o reg size v = d := by unfold Id.o; rw [if_neg g]
    rw [e]
    have := out_no w (some ⟨B, 0, none⟩) reg size v (by rw [chk_ck]; exact g)
    rw [chk_ck] at this
    exact this.mono fun e w' ⟨a, b⟩ => ⟨a, .same h b⟩

theorem wIn (h : IW w S B d) (k : d.Ok) (reg size : Int) : Calls Try.prog 9 #[.pointer (some ⟨B, 0, none⟩), .int .i64 reg, .int .i64 size] w fun e w' => e = .returned (.tuple #[.int .u32 (d.iV reg size), .int .i64 (ck reg size)]) ∧ INx w S B (d.i reg size) w' := by
  obtain ⟨dn, sv, h1, hd, h2⟩ := h.ex
  by_cases g : ck reg size = 0
  · have e : d.i reg size = d.inn reg size.toNat := by unfold Id.i; rw [if_pos g]
    have e' : d.iV reg size = d.inV reg size.toNat := by unfold Id.iV; rw [if_pos g]
    rw [g, e, e']
    exact (in_ok h1 hd k reg size (by rw [chk_ck]; exact g)).mono fun e w' ⟨a, dn', b1, bd, b3⟩ => ⟨a, INx.mk b1 bd (fun j hj => .inl (h2 j hj)) (b3.mono fun j _ hj => h2 j (.inl hj))⟩
  · have e : d.i reg size = d := by unfold Id.i; rw [if_neg g]
    have e' : d.iV reg size = 0 := by unfold Id.iV; rw [if_neg g]
    rw [e, e']
    have := in_no w (some ⟨B, 0, none⟩) reg size (by rw [chk_ck]; exact g)
    rw [chk_ck] at this
    exact this.mono fun e w' ⟨a, b⟩ => ⟨a, .same h b⟩

theorem wLine (h : IW w S B d) (k : d.Ok) : Calls Try.prog 14 #[.pointer (some ⟨B, 0, none⟩)] w fun e w' => e = .returned (.bool d.line) ∧ w' = w := by
  obtain ⟨dn, sv, h1, hd, h2⟩ := h.ex
  exact line_ok h1 k

/-- Behind Written: the places are told, and no longer its own. -/
def ITold (w : World) (S : Nat → Prop) (B : Nat) (d : Id) (v : Value) (w' : World) : Prop := ∃ S', IW w' S' B d.told ∧ Nxt w S w' S' ∧ AsideI w' S' v d.log ∧ (∀ g, v.ownBlock = some g → S g)

theorem wWritten (h : IW w S B d) : Calls Try.prog 12 #[.pointer (some ⟨B, 0, none⟩)] w fun e w' => ∃ p c, e = .returned (.slice p d.log.length c) ∧ ITold w S B d (.slice p d.log.length c) w' := by
  obtain ⟨dn, sv, h1, hd, h2⟩ := h.ex
  obtain ⟨p, c, es⟩ := h1.log.sl
  subst es
  refine (written_ok h1).mono fun e w' ⟨a, b1, b3⟩ => ⟨p, c, a, fun k => S k ∧ (Value.slice p d.log.length c).ownBlock ≠ some k, ?_, ?_, ?_, ?_⟩
  · refine ⟨⟨dn, _, b1, hd, fun k g => ?_⟩, fun k g => Nat.lt_of_lt_of_le (h.lt k g.1) b3.size⟩
    rcases g with rfl | g
    · exact ⟨h2 _ (.inl rfl), fun e => h1.notB e rfl⟩
    · cases g
  · exact ⟨fun k g => .inl g.1, b3.mono fun j _ hj => h2 j (.inl hj)⟩
  · exact ⟨h1.log.kept b3 (fun g e => h1.notB e), fun g e f => f.2 e⟩
  · exact fun g e => h2 g (.inr e)

theorem wDisk (h : IW w S B d) (k : d.Ok) : Calls Try.prog 16 #[.pointer (some ⟨B, 0, none⟩)] w fun e w' => e = .returned (.slice (some ⟨w.heap.size, 0, none⟩) (512 * d.n) (512 * d.n)) ∧ DskPost w d w' := by
  obtain ⟨dn, sv, h1, hd, h2⟩ := h.ex
  exact disk_ok h1 k
end

/-- Behind New. -/
def INew (w : World) (L : Nat) (bt : Nat → Int) (w' : World) : Prop := ∃ S, IW w' S w.heap.size (id0 (L / 512) (dB L bt)) ∧ (∀ k, S k → w.heap.size ≤ k) ∧ Kp noB w w'

theorem wNew (w : World) (a : Option Addr) (L c : Nat) (bt : Nat → Int) (hb : BytAt w a L bt) (h1 : L % 512 = 0) (h2 : L ≤ 32768) : Calls Try.prog 5 #[.slice a L c] w fun e w' => e = .returned (.tuple #[.pointer (some ⟨w.heap.size, 0, none⟩), .int .i64 0]) ∧ INew w L bt w' := by
  refine (new_ok w a L c bt hb h1 h2).mono fun e w' ⟨a, dn, b1, b3⟩ => ⟨a, fun k => k = w.heap.size, ⟨⟨dn, _, b1, fun q => absurd rfl q, fun k g => ?_⟩, fun k g => ?_⟩, fun k g => by omega, b3⟩
  · rcases g with g | g
    · exact g
    · cases g
  · have := b1.lt
    omega

theorem dB_byt {L : Nat} {bt : Nat → Int} (h : ∀ j, j < L → byt (bt j)) (i : Nat) : byt (dB L bt i) := by
  unfold dB
  split
  · exact h i ‹_›
  · exact byt0

theorem idN_ok {L : Nat} {bt : Nat → Int} (h2 : L ≤ 32768) (h : ∀ j, j < L → byt (bt j)) : (id0 (L / 512) (dB L bt)).Ok := id0_ok (by omega) (fun i _ => dB_byt h i)
theorem id0_work (n : Nat) (D : Nat → Int) : (id0 n D).work = 0 := rfl
end Go.Proofs.Ytddalplpmgmplaa
