/- Both disks in one world. -/
import Derived.Test.YtddalplpmgmplaaIxOut0
import Derived.Test.YtddalplpmgmplaaIxIn
import Derived.Test.YtddalplpmgmplaaIxIn0
import Derived.Test.YtddalplpmgmplaaIxNew
import Derived.Test.YtddalplpmgmplaaIdSt
namespace Go.Proofs.Ytddalplpmgmplaa
open Go.ChangeShapes Go.WideShapes Go.ChangeAt Go.RowKit
set_option linter.unusedVariables false

theorem XAt.kept {S : Nat → Prop} {w w' : World} {B gD cap : Nat} {dn : Int} {sv : Value} {d : Id} (h : XAt w B gD cap dn sv d) (k : Kp S w w') (hS : ∀ j, footX B gD sv j → ¬ S j) : XAt w' B gD cap dn sv d :=
  ⟨h.blk.kept k (hS _ (.inl rfl)), h.row.kept k (hS _ (.inr (.inl rfl))), h.le, h.log.kept k (fun g e => hS _ (.inr (.inr e)))⟩

theorem XAt.foot_lt {w : World} {B gD cap : Nat} {dn : Int} {sv : Value} {d : Id} (h : XAt w B gD cap dn sv d) {k : Nat} (g : footX B gD sv k) : k < w.heap.size := by
  rcases g with rfl | rfl | g
  · exact h.lt
  · obtain ⟨cur, e, _⟩ := h.row
    exact heap_lt e
  · obtain ⟨cur, e⟩ := h.log.lt g
    exact heap_lt e

structure XW (w : World) (T : Nat → Prop) (R gD cap : Nat) (d : Id) : Prop where
  ex : ∃ dn sv, XAt w R gD cap dn sv d ∧ Dn d dn ∧ ∀ k, footX R gD sv k → T k
  lt : ∀ k, T k → k < w.heap.size

def XNx (w : World) (T : Nat → Prop) (R gD cap : Nat) (d : Id) (w' : World) : Prop := ∃ T', XW w' T' R gD cap d ∧ Nxt w T w' T'

section
variable {w w' : World} {T : Nat → Prop} {R gD cap : Nat} {d : Id}

theorem XW.kept {Y : Nat → Prop} (h : XW w T R gD cap d) (k : Kp Y w w') (hS : ∀ k, T k → ¬ Y k) : XW w' T R gD cap d := by
  obtain ⟨dn, sv, h1, hd, h2⟩ := h.ex
  exact ⟨⟨dn, sv, h1.kept k (fun j g => hS j (h2 j g)), hd, h2⟩, fun j hj => Nat.lt_of_lt_of_le (h.lt j hj) k.size⟩

theorem XNx.mk {dn' : Int} {sv' : Value} {d' : Id} (h' : XAt w' R gD cap dn' sv' d') (hd : Dn d' dn') (hf : ∀ k, footX R gD sv' k → T k ∨ w.heap.size ≤ k) (kp : Kp T w w') : XNx w T R gD cap d' w' :=
  ⟨fun k => k < w'.heap.size ∧ (T k ∨ w.heap.size ≤ k), ⟨⟨dn', sv', h', hd, fun k g => ⟨h'.foot_lt g, hf k g⟩⟩, fun k g => g.1⟩, ⟨fun k g => g.2, kp⟩⟩

theorem XNx.same (h : XW w T R gD cap d) (e : w' = w) : XNx w T R gD cap d w' := by
  subst e
  exact ⟨T, h, Nxt.refl _ _⟩

theorem XOut.nx {sv : Value} {d' : Id} (h2 : ∀ k, footX R gD sv k → T k) (h : XOut w R gD cap sv d' w') : XNx w T R gD cap d' w' := by
  obtain ⟨dn', sv', b1, bd, b2, b3⟩ := h
  refine XNx.mk b1 bd (fun j hj => ?_) (b3.mono fun j _ hj => h2 j hj)
  rcases b2 j hj with f | f
  · exact .inl (h2 j f)
  · exact .inr f

theorem xOut (h : XW w T R gD cap d) (k : d.Ok) (reg size v : Int) (v0 : 0 ≤ v) (v1 : v < 4294967296) (hw : d.work + 4 < 9007199254740992) : Calls Try.prog 8 #[.pointer (some ⟨R, 0, none⟩), .int .i64 reg, .int .i64 size, .int .u32 v] w fun e w' => e = .returned (.int .i64 (ck reg size)) ∧ XNx w T R gD cap (d.o reg size v) w' := by
  obtain ⟨dn, sv, h1, hd, h2⟩ := h.ex
  by_cases g : ck reg size = 0
  · have e : d.o reg size v = d.out reg size.toNat v := by unfold Id.o; rw [if_pos g]
    rw [g, e]
    exact (xout_ok h1 hd k reg size v v0 v1 hw g).mono fun e w' ⟨a, b⟩ => ⟨a, b.nx h2⟩
  · have e : d.o reg size v = d := by unfold Id.o; rw [if_neg g]
    rw [e]
    exact (xout_no w _ reg size v v0 v1 g).mono fun e w' ⟨a, b⟩ => ⟨a, XNx.same h b⟩

theorem xIn (h : XW w T R gD cap d) (k : d.Ok) (reg size : Int) : Calls Try.prog 10 #[.pointer (some ⟨R, 0, none⟩), .int .i64 reg, .int .i64 size] w fun e w' => e = .returned (.tuple #[.int .u32 (d.iV reg size), .int .i64 (ck reg size)]) ∧ XNx w T R gD cap (d.i reg size) w' := by
  obtain ⟨dn, sv, h1, hd, h2⟩ := h.ex
  by_cases g : ck reg size = 0
  · have e : d.i reg size = d.inn reg size.toNat := by unfold Id.i; rw [if_pos g]
    have e' : d.iV reg size = d.inV reg size.toNat := by unfold Id.iV; rw [if_pos g]
    rw [g, e, e']
    have hr : 0 ≤ reg ∧ reg < 9 ∧ (reg = 0 → size = 1 ∨ size = 2 ∨ size = 4) := by
      unfold ck at g
      split at g
      · cases g
      · split at g
        · cases g
        · omega
    obtain ⟨r0, r9, rs⟩ := hr
    have X : Calls Try.prog 10 #[.pointer (some ⟨R, 0, none⟩), .int .i64 reg, .int .i64 size] w fun e w' => e = .returned (.tuple #[.int .u32 (d.inV reg size.toNat), .int .i64 0]) ∧ XOk w R gD cap sv (d.inn reg size.toNat) w' := by
      cases ho : d.off
      · rcases (by omega : reg = 0 ∨ (1 ≤ reg ∧ reg ≤ 6) ∨ reg = 7 ∨ reg = 8) with rfl | q | q
        · have hs := rs rfl
          obtain ⟨s, rfl⟩ : ∃ s : Nat, size = s := ⟨size.toNat, by omega⟩
          rw [Int.toNat_natCast]
          exact xin_0 h1 hd k s (by omega) ho
        · obtain ⟨j, rfl⟩ : ∃ j : Nat, reg = j := ⟨reg.toNat, by omega⟩
          exact xin_reg h1 hd k size j (by omega) (by omega) (.inl ho)
        · exact xin_7 h1 hd k size ho reg q
      · by_cases q : reg = 6
        · subst q
          exact xin_reg h1 hd k size 6 (by decide) (by decide) (.inr rfl)
        · exact xin_off h1 hd k ho reg size r0 r9 rs q
    exact X.mono fun e w' ⟨a, b⟩ => ⟨a, b.out.nx h2⟩
  · have e : d.i reg size = d := by unfold Id.i; rw [if_neg g]
    have e' : d.iV reg size = 0 := by unfold Id.iV; rw [if_neg g]
    rw [e, e']
    exact (xin_no w _ reg size g).mono fun e w' ⟨a, b⟩ => ⟨a, XNx.same h b⟩

theorem xLine (h : XW w T R gD cap d) (k : d.Ok) : Calls Try.prog 15 #[.pointer (some ⟨R, 0, none⟩)] w fun e w' => e = .returned (.bool d.line) ∧ w' = w := by
  obtain ⟨dn, sv, h1, hd, h2⟩ := h.ex
  exact xline_ok h1 k

theorem xWritten (h : XW w T R gD cap d) : Calls Try.prog 13 #[.pointer (some ⟨R, 0, none⟩)] w fun e w' => ∃ p c, e = .returned (.slice p d.log.length c) ∧ XNx w T R gD cap d.told w' ∧ OwnI w' (.slice p d.log.length c) d.log := by
  obtain ⟨dn, sv, h1, hd, h2⟩ := h.ex
  obtain ⟨p, c, es⟩ := h1.log.sl
  subst es
  refine (xwritten_ok h1).mono fun e w' ⟨a, b1, b3⟩ => ⟨p, c, a, XNx.mk b1 hd (fun k g => ?_) (b3.mono fun j _ (e : j = R) => h2 j (.inl e)), h1.log.kept b3 (fun g e => h1.raw.notB e)⟩
  rcases g with g | g | g
  · exact .inl (h2 k (.inl g))
  · exact .inl (h2 k (.inr (.inl g)))
  · cases g
end

/-- The program's disk at B, the document's at R; blocks and a list of places lie aside. -/
structure Tw (W w : World) (B R gD cap : Nat) (sd : List (Nat × Obj)) (lv : Value) (l : List Int) (d e : Id) : Prop where
  ex : ∃ S T, IW w S B d ∧ XW w T R gD cap e ∧ (∀ k, S k → ¬ T k) ∧ (∀ k, S k → W.heap.size ≤ k) ∧ (∀ k, T k → W.heap.size ≤ k) ∧ (∀ x ∈ sd, ¬ S x.1 ∧ ¬ T x.1 ∧ w.heap[x.1]? = some x.2) ∧ AsideI w S lv l ∧ AsideI w T lv l
  kp : Kp noB W w
  ok : d.Ok
  ok' : e.Ok

section
variable {W w : World} {B R gD cap : Nat} {sd : List (Nat × Obj)} {lv : Value} {l : List Int} {d e : Id}

theorem Tw.nextL {S S' T : Nat → Prop} {w' : World} {d' : Id} {lv' : Value} {l' : List Int} (h : Tw W w B R gD cap sd lv l d e) (h1 : IW w S B d) (h2 : XW w T R gD cap e) (h3 : ∀ k, S k → ¬ T k) (h4 : ∀ k, S k → W.heap.size ≤ k) (h5 : ∀ k, T k → W.heap.size ≤ k) (h6 : ∀ x ∈ sd, ¬ S x.1 ∧ ¬ T x.1 ∧ w.heap[x.1]? = some x.2) (b1 : IW w' S' B d') (b2 : Nxt w S w' S') (k' : d'.Ok) (a1 : AsideI w' S' lv' l') (a2 : AsideI w' T lv' l') : Tw W w' B R gD cap sd lv' l' d' e := by
  refine ⟨⟨S', T, b1, h2.kept b2.kp (fun k g f => h3 k f g), fun k g f => ?_, fun k g => ?_, h5, fun x hx => ⟨fun g => ?_, (h6 x hx).2.1, heap_kept (h6 x hx).2.2 b2.kp (h6 x hx).1⟩, a1, a2⟩, h.kp.over b2.kp (fun j hj g => by have := h4 j g; omega), k', h.ok'⟩
  · rcases b2.sub k g with q | q
    · exact h3 k q f
    · have := h2.lt k f; omega
  · rcases b2.sub k g with q | q
    · exact h4 k q
    · exact Nat.le_trans h.kp.size q
  · rcases b2.sub _ g with q | q
    · exact (h6 x hx).1 q
    · have := heap_lt (h6 x hx).2.2; omega

theorem Tw.mapL {f : FuncId} {args : Array Value} {E : Ending → Prop} {d' : Id} (h : Tw W w B R gD cap sd lv l d e) (k' : d'.Ok) (hc : ∀ S, IW w S B d → Calls Try.prog f args w fun r w' => E r ∧ INx w S B d' w') : Calls Try.prog f args w fun r w' => E r ∧ Tw W w' B R gD cap sd lv l d' e := by
  obtain ⟨S, T, h1, h2, h3, h4, h5, h6, h8, h9⟩ := h.ex
  exact (hc S h1).mono fun r w' ⟨a, S', b1, b2⟩ => ⟨a, h.nextL h1 h2 h3 h4 h5 h6 b1 b2 k' (h8.next b2) ⟨h9.own.kept b2.kp (fun g e f => h8.out g e f), h9.out⟩⟩

theorem Tw.nextR {S T T' : Nat → Prop} {w' : World} {e' : Id} (h : Tw W w B R gD cap sd lv l d e) (h1 : IW w S B d) (h2 : XW w T R gD cap e) (h3 : ∀ k, S k → ¬ T k) (h4 : ∀ k, S k → W.heap.size ≤ k) (h5 : ∀ k, T k → W.heap.size ≤ k) (h6 : ∀ x ∈ sd, ¬ S x.1 ∧ ¬ T x.1 ∧ w.heap[x.1]? = some x.2) (h8 : AsideI w S lv l) (h9 : AsideI w T lv l) (b1 : XW w' T' R gD cap e') (b2 : Nxt w T w' T') (k' : e'.Ok) : Tw W w' B R gD cap sd lv l d e' := by
  refine ⟨⟨S, T', h1.kept b2.kp (fun k g f => h3 k g f), b1, fun k g f => ?_, h4, fun k g => ?_, fun x hx => ⟨(h6 x hx).1, fun g => ?_, heap_kept (h6 x hx).2.2 b2.kp (h6 x hx).2.1⟩, ⟨h8.own.kept b2.kp (fun g e f => h9.out g e f), h8.out⟩, h9.next b2⟩, h.kp.over b2.kp (fun j hj g => by have := h5 j g; omega), h.ok, k'⟩
  · rcases b2.sub k f with q | q
    · exact h3 k g q
    · have := h1.lt k g; omega
  · rcases b2.sub k g with q | q
    · exact h5 k q
    · exact Nat.le_trans h.kp.size q
  · rcases b2.sub _ g with q | q
    · exact (h6 x hx).2.1 q
    · have := heap_lt (h6 x hx).2.2; omega

theorem Tw.mapR {f : FuncId} {args : Array Value} {E : Ending → Prop} {e' : Id} (h : Tw W w B R gD cap sd lv l d e) (k' : e'.Ok) (hc : ∀ T, XW w T R gD cap e → Calls Try.prog f args w fun r w' => E r ∧ XNx w T R gD cap e' w') : Calls Try.prog f args w fun r w' => E r ∧ Tw W w' B R gD cap sd lv l d e' := by
  obtain ⟨S, T, h1, h2, h3, h4, h5, h6, h8, h9⟩ := h.ex
  exact (hc T h2).mono fun r w' ⟨a, T', b1, b2⟩ => ⟨a, h.nextR h1 h2 h3 h4 h5 h6 h8 h9 b1 b2 k'⟩

theorem Tw.keep {w' : World} (h : Tw W w B R gD cap sd lv l d e) (k : Kp noB w w') : Tw W w' B R gD cap sd lv l d e := by
  obtain ⟨S, T, h1, h2, h3, h4, h5, h6, h8, h9⟩ := h.ex
  exact ⟨⟨S, T, h1.keep k, h2.kept k (fun _ _ => id), h3, h4, h5, fun x hx => ⟨(h6 x hx).1, (h6 x hx).2.1, heap_kept (h6 x hx).2.2 k id⟩, ⟨h8.own.kept k (fun _ _ => id), h8.out⟩, ⟨h9.own.kept k (fun _ _ => id), h9.out⟩⟩, h.kp.trans k, h.ok, h.ok'⟩
theorem Tw.drew (h : Tw W w B R gD cap sd lv l d e) : Tw W w.drew B R gD cap sd lv l d e := h.keep (Kp.refl _ _).drew

theorem Tw.heap (h : Tw W w B R gD cap sd lv l d e) {g : Nat} {o : Obj} (hx : (g, o) ∈ sd) : w.heap[g]? = some o := by
  obtain ⟨S, T, h1, h2, h3, h4, h5, h6, h8, h9⟩ := h.ex
  exact (h6 _ hx).2.2

theorem Tw.less (h : Tw W w B R gD cap sd lv l d e) {sd' : List (Nat × Obj)} (q : ∀ x ∈ sd', x ∈ sd) : Tw W w B R gD cap sd' lv l d e := by
  obtain ⟨S, T, h1, h2, h3, h4, h5, h6, h8, h9⟩ := h.ex
  exact ⟨⟨S, T, h1, h2, h3, h4, h5, fun x hx => h6 x (q x hx), h8, h9⟩, h.kp, h.ok, h.ok'⟩

theorem Tw.forget (h : Tw W w B R gD cap sd lv l d e) : Tw W w B R gD cap sd (.slice none 0 0) [] d e := by
  obtain ⟨S, T, h1, h2, h3, h4, h5, h6, h8, h9⟩ := h.ex
  exact ⟨⟨S, T, h1, h2, h3, h4, h5, h6, ⟨OwnI.nil _, fun g e => by cases e⟩, ⟨OwnI.nil _, fun g e => by cases e⟩⟩, h.kp, h.ok, h.ok'⟩

theorem Tw.more {w' : World} (h : Tw W w B R gD cap sd lv l d e) (k : Kp noB w w') {g : Nat} {o : Obj} (hg : w.heap.size ≤ g) (ho : w'.heap[g]? = some o) : Tw W w' B R gD cap ((g, o) :: sd) lv l d e := by
  obtain ⟨S, T, h1, h2, h3, h4, h5, h6, h8, h9⟩ := h.ex
  refine ⟨⟨S, T, h1.keep k, h2.kept k (fun _ _ => id), h3, h4, h5, fun x hx => ?_, ⟨h8.own.kept k (fun _ _ => id), h8.out⟩, ⟨h9.own.kept k (fun _ _ => id), h9.out⟩⟩, h.kp.trans k, h.ok, h.ok'⟩
  rcases List.mem_cons.1 hx with q | hx
  · subst q
    exact ⟨fun f => by have := h1.lt _ f; omega, fun f => by have := h2.lt _ f; omega, ho⟩
  · exact ⟨(h6 x hx).1, (h6 x hx).2.1, heap_kept (h6 x hx).2.2 k id⟩

theorem Tw.alloc (h : Tw W w B R gD cap sd lv l d e) (o : Obj) : Tw W (w.alloc o) B R gD cap ((w.heap.size, o) :: sd) lv l d e := h.more (Kp.alloc noB _ _) (Nat.le_refl _) (heap_new _ _)

/-- A cell of what lies aside is changed. -/
theorem Tw.turn {w' : World} {g : Nat} {o o' : Obj} (h : Tw W w B R gD cap [(g, o)] (.slice none 0 0) [] d e) (hW : W.heap.size ≤ g) (k : Kp (isB g) w w') (ho : w'.heap[g]? = some o') : Tw W w' B R gD cap [(g, o')] (.slice none 0 0) [] d e := by
  obtain ⟨S, T, h1, h2, h3, h4, h5, h6, h8, h9⟩ := h.ex
  obtain ⟨q1, q2, q3⟩ := h6 _ (.head _)
  refine ⟨⟨S, T, h1.kept k (fun j hj (q : j = g) => q1 (q ▸ hj)), h2.kept k (fun j hj (q : j = g) => q2 (q ▸ hj)), h3, h4, h5, fun x hx => ?_, ⟨OwnI.nil _, fun g e => by cases e⟩, ⟨OwnI.nil _, fun g e => by cases e⟩⟩, h.kp.over k (fun j hj (q : j = g) => by omega), h.ok, h.ok'⟩
  rw [List.mem_singleton] at hx
  subst hx
  exact ⟨q1, q2, ho⟩

theorem Tw.lineL (h : Tw W w B R gD cap sd lv l d e) : Calls Try.prog 14 #[.pointer (some ⟨B, 0, none⟩)] w fun r w' => r = .returned (.bool d.line) ∧ w' = w := by
  obtain ⟨S, T, h1, r⟩ := h.ex
  exact wLine h1 h.ok
theorem Tw.lineR (h : Tw W w B R gD cap sd lv l d e) : Calls Try.prog 15 #[.pointer (some ⟨R, 0, none⟩)] w fun r w' => r = .returned (.bool e.line) ∧ w' = w := by
  obtain ⟨S, T, h1, h2, r⟩ := h.ex
  exact xLine h2 h.ok'

theorem Tw.outL (h : Tw W w B R gD cap sd lv l d e) (reg size v : Int) (v0 : 0 ≤ v) (v1 : v < 4294967296) (hw : d.work + 4 < 9007199254740992) : Calls Try.prog 7 #[.pointer (some ⟨B, 0, none⟩), .int .i64 reg, .int .i64 size, .int .u32 v] w fun r w' => r = .returned (.int .i64 (ck reg size)) ∧ Tw W w' B R gD cap sd lv l (d.o reg size v) e := h.mapL (h.ok.o _ _ _) (fun S hu => wOut hu h.ok reg size v v0 v1 hw)
theorem Tw.outR (h : Tw W w B R gD cap sd lv l d e) (reg size v : Int) (v0 : 0 ≤ v) (v1 : v < 4294967296) (hw : e.work + 4 < 9007199254740992) : Calls Try.prog 8 #[.pointer (some ⟨R, 0, none⟩), .int .i64 reg, .int .i64 size, .int .u32 v] w fun r w' => r = .returned (.int .i64 (ck reg size)) ∧ Tw W w' B R gD cap sd lv l d (e.o reg size v) := h.mapR (h.ok'.o _ _ _) (fun S hu => xOut hu h.ok' reg size v v0 v1 hw)
theorem Tw.inL (h : Tw W w B R gD cap sd lv l d e) (reg size : Int) : Calls Try.prog 9 #[.pointer (some ⟨B, 0, none⟩), .int .i64 reg, .int .i64 size] w fun r w' => r = .returned (.tuple #[.int .u32 (d.iV reg size), .int .i64 (ck reg size)]) ∧ Tw W w' B R gD cap sd lv l (d.i reg size) e := h.mapL (h.ok.i _ _) (fun S hu => wIn hu h.ok reg size)
theorem Tw.inR (h : Tw W w B R gD cap sd lv l d e) (reg size : Int) : Calls Try.prog 10 #[.pointer (some ⟨R, 0, none⟩), .int .i64 reg, .int .i64 size] w fun r w' => r = .returned (.tuple #[.int .u32 (e.iV reg size), .int .i64 (ck reg size)]) ∧ Tw W w' B R gD cap sd lv l d (e.i reg size) := h.mapR (h.ok'.i _ _) (fun S hu => xIn hu h.ok' reg size)

theorem Tw.toldL (h : Tw W w B R gD cap sd lv l d e) : Calls Try.prog 12 #[.pointer (some ⟨B, 0, none⟩)] w fun r w' => ∃ p c, r = .returned (.slice p d.log.length c) ∧ Tw W w' B R gD cap sd (.slice p d.log.length c) d.log d.told e := by
  obtain ⟨S, T, h1, h2, h3, h4, h5, h6, h8, h9⟩ := h.ex
  exact (wWritten h1).mono fun r w' ⟨p, c, a, S', b1, b2, b3, b4⟩ => ⟨p, c, a, h.nextL h1 h2 h3 h4 h5 h6 b1 b2 h.ok.told b3 ⟨b3.own, fun g q f => h3 g (b4 g q) f⟩⟩

theorem Tw.toldR (h : Tw W w B R gD cap sd lv l d e) : Calls Try.prog 13 #[.pointer (some ⟨R, 0, none⟩)] w fun r w' => ∃ p c, r = .returned (.slice p e.log.length c) ∧ Tw W w' B R gD cap sd lv l d e.told ∧ IntAt w' p e.log := by
  obtain ⟨S, T, h1, h2, h3, h4, h5, h6, h8, h9⟩ := h.ex
  exact (xWritten h2).mono fun r w' ⟨p, c, a, ⟨T', b1, b2⟩, b3⟩ => ⟨p, c, a, h.nextR h1 h2 h3 h4 h5 h6 h8 h9 b1 b2 h.ok'.told, b3.at⟩

theorem Tw.ints {p : Option Addr} {n c : Nat} (h : Tw W w B R gD cap sd (.slice p n c) l d e) : IntAt w p l := by
  obtain ⟨S, T, h1, h2, h3, h4, h5, h6, h8, h9⟩ := h.ex
  exact h8.own.at

theorem Tw.disk (h : Tw W w B R gD cap sd lv l d e) : Calls Try.prog 16 #[.pointer (some ⟨B, 0, none⟩)] w fun r w' => r = .returned (.slice (some ⟨w.heap.size, 0, none⟩) (512 * d.n) (512 * d.n)) ∧ ∃ cur, isRow cur (512 * d.n) d.D ∧ Tw W w' B R gD cap ((w.heap.size, rowO cur) :: sd) lv l d e := by
  obtain ⟨S, T, h1, h2, r⟩ := h.ex
  refine (wDisk h1 h.ok).mono fun r w' ⟨a, b⟩ => ⟨a, ?_⟩
  obtain ⟨cur, c1, c2⟩ := b.row.is
  exact ⟨cur, c1, h.more b.2.1 (Nat.le_refl _) c2⟩

/-- The document's bytes. -/
theorem Tw.bytes (h : Tw W w B R gD cap sd lv l d e) : w.cell? ⟨R, 0, none⟩ = some (.slice (some ⟨gD, 0, none⟩) (512 * e.n) cap) ∧ (convert 22 9 (.slice (some ⟨gD, 0, none⟩) (512 * e.n) cap)).run Try.prog w = .ok (.string (strOfNums (strR (512 * e.n) e.D))) w := by
  obtain ⟨S, T, h1, h2, r⟩ := h.ex
  obtain ⟨dn, sv, x1, xd, x2⟩ := h2.ex
  refine ⟨x1.c0, ?_⟩
  have hb : BytAt w (some ⟨gD, 0, none⟩) (512 * e.n) e.D := fun j hj => by
    obtain ⟨cur, c1, c2, c3⟩ := x1.row
    refine ⟨gD, 0, rfl, heap_lt c1, ?_⟩
    rw [cell_at c1, Nat.zero_add]
    exact c3 j hj
  exact hb.str

theorem Tw.start {w0 w1 : World} {S : Nat → Prop} {g : Nat} {o : Obj} (k0 : Kp noB W w0) (h1 : IW w0 S B d) (n1 : ∀ k, S k → W.heap.size ≤ k) (kd : d.Ok) (hg : w0.heap[g]? = some o) (gS : ¬ S g) (hx : ∃ dn, XAt w1 R gD cap dn (.slice none 0 0) d ∧ Dn d dn ∧ w0.heap.size ≤ R ∧ w0.heap.size ≤ gD ∧ Kp noB w0 w1) : Tw W w1 B R gD cap [(g, o)] (.slice none 0 0) [] d d := by
  obtain ⟨dn, x1, xd, r1, r2, k1⟩ := hx
  refine ⟨⟨S, fun k => k = R ∨ k = gD, h1.keep k1, ⟨⟨dn, _, x1, xd, fun k q => ?_⟩, fun k q => ?_⟩, fun k a q => ?_, n1, fun k q => ?_, fun x hx => ?_, ⟨OwnI.nil _, fun g e => by cases e⟩, ⟨OwnI.nil _, fun g e => by cases e⟩⟩, k0.trans k1, kd, kd⟩
  · rcases q with q | q | q
    · exact .inl q
    · exact .inr q
    · cases q
  · rcases q with q | q
    · exact x1.foot_lt (.inl q)
    · exact x1.foot_lt (.inr (.inl q))
  · have := h1.lt k a
    omega
  · have := k0.size
    omega
  · rw [List.mem_singleton] at hx
    subst hx
    have := heap_lt hg
    exact ⟨gS, fun q => by have q : g = R ∨ g = gD := q; omega, heap_kept hg k1 id⟩
end
end Go.Proofs.Ytddalplpmgmplaa
