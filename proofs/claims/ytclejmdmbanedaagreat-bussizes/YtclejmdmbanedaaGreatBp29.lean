/- The bus and its devices: IxAll. -/
import Derived.Test.YtclejmdmbanedaaGreatBp13
namespace Go.Proofs.YtclejmdmbanedaaGreat.Dk
open Go.ChangeShapes Go.WideShapes Go.ChangeAt Go.RowKit
set_option linter.unusedVariables false
set_option maxRecDepth 20000
theorem XAt.kept {S : Nat → Prop} {w w' : World} {B gD cap : Nat} {dn : Int} {sv : Value} {d : Id} (h : XAt w B gD cap dn sv d) (k : Kp S w w') (hS : ∀ j, footX B gD sv j → ¬ S j) : XAt w' B gD cap dn sv d :=
  ⟨h.blk.kept k (hS _ (.inl rfl)), h.row.kept k (hS _ (.inr (.inl rfl))), h.le, h.log.kept k (fun g e => hS _ (.inr (.inr e)))⟩
theorem XAt.foot_lt {w : World} {B gD cap : Nat} {dn : Int} {sv : Value} {d : Id} (h : XAt w B gD cap dn sv d) {k : Nat} (g : footX B gD sv k) : k < w.heap.size := by
  rcases g with rfl | rfl | g
  · exact h.lt
  · obtain ⟨cur, e, _⟩ := h.row
    exact heap_lt e
  · obtain ⟨cur, e⟩ := h.log.lt g
    exact heap_lt e
structure XW (w : World) (T : Nat → Prop) (R gD cap : Nat) (d : Id) : Prop where
  ex : ∃ dn sv, XAt w R gD cap dn sv d ∧ Dn d dn ∧ ∀ k, footX R gD sv k → T k
  lt : ∀ k, T k → k < w.heap.size
def XNx (w : World) (T : Nat → Prop) (R gD cap : Nat) (d : Id) (w' : World) : Prop := ∃ T', XW w' T' R gD cap d ∧ Nxt w T w' T'
section
variable {w w' : World} {T : Nat → Prop} {R gD cap : Nat} {d : Id}
theorem XW.kept {Y : Nat → Prop} (h : XW w T R gD cap d) (k : Kp Y w w') (hS : ∀ k, T k → ¬ Y k) : XW w' T R gD cap d := by
  obtain ⟨dn, sv, h1, hd, h2⟩ := h.ex
  exact ⟨⟨dn, sv, h1.kept k (fun j g => hS j (h2 j g)), hd, h2⟩, fun j hj => Nat.lt_of_lt_of_le (h.lt j hj) k.size⟩
theorem XNx.mk {dn' : Int} {sv' : Value} {d' : Id} (h' : XAt w' R gD cap dn' sv' d') (hd : Dn d' dn') (hf : ∀ k, footX R gD sv' k → T k ∨ w.heap.size ≤ k) (kp : Kp T w w') : XNx w T R gD cap d' w' :=
  ⟨fun k => k < w'.heap.size ∧ (T k ∨ w.heap.size ≤ k), ⟨⟨dn', sv', h', hd, fun k g => ⟨h'.foot_lt g, hf k g⟩⟩, fun k g => g.1⟩, ⟨fun k g => g.2, kp⟩⟩
theorem XNx.same (h : XW w T R gD cap d) (e : w' = w) : XNx w T R gD cap d w' := by
  subst e
  exact ⟨T, h, Nxt.refl _ _⟩
theorem xLine (h : XW w T R gD cap d) (k : d.Ok) : Calls Tryz.prog 85 #[.pointer (some ⟨R, 0, none⟩)] w fun e w' => e = .returned (.bool d.line) ∧ w' = w := by
  obtain ⟨dn, sv, h1, hd, h2⟩ := h.ex
  exact xline_ok h1 k
end
/-- The program's disk at B, the document's at R; blocks and a list of places lie aside. -/
structure Tw (W w : World) (B R gD cap : Nat) (sd : List (Nat × Obj)) (lv : Value) (l : List Int) (d e : Id) : Prop where
  ex : ∃ S T, IW w S B d ∧ XW w T R gD cap e ∧ (∀ k, S k → ¬ T k) ∧ (∀ k, S k → W.heap.size ≤ k) ∧ (∀ k, T k → W.heap.size ≤ k) ∧ (∀ x ∈ sd, ¬ S x.1 ∧ ¬ T x.1 ∧ w.heap[x.1]? = some x.2) ∧ AsideI w S lv l ∧ AsideI w T lv l
  kp : Kp noB W w
  ok : d.Ok
  ok' : e.Ok
section
variable {W w : World} {B R gD cap : Nat} {sd : List (Nat × Obj)} {lv : Value} {l : List Int} {d e : Id}
theorem Tw.keep {w' : World} (h : Tw W w B R gD cap sd lv l d e) (k : Kp noB w w') : Tw W w' B R gD cap sd lv l d e := by
  obtain ⟨S, T, h1, h2, h3, h4, h5, h6, h8, h9⟩ := h.ex
  exact ⟨⟨S, T, h1.keep k, h2.kept k (fun _ _ => id), h3, h4, h5, fun x hx => ⟨(h6 x hx).1, (h6 x hx).2.1, heap_kept (h6 x hx).2.2 k id⟩, ⟨h8.own.kept k (fun _ _ => id), h8.out⟩, ⟨h9.own.kept k (fun _ _ => id), h9.out⟩⟩, h.kp.trans k, h.ok, h.ok'⟩
theorem Tw.drew (h : Tw W w B R gD cap sd lv l d e) : Tw W w.drew B R gD cap sd lv l d e := h.keep (Kp.refl _ _).drew
theorem Tw.heap (h : Tw W w B R gD cap sd lv l d e) {g : Nat} {o : Obj} (hx : (g, o) ∈ sd) : w.heap[g]? = some o := by
  obtain ⟨S, T, h1, h2, h3, h4, h5, h6, h8, h9⟩ := h.ex
  exact (h6 _ hx).2.2
theorem Tw.less (h : Tw W w B R gD cap sd lv l d e) {sd' : List (Nat × Obj)} (q : ∀ x ∈ sd', x ∈ sd) : Tw W w B R gD cap sd' lv l d e := by
  obtain ⟨S, T, h1, h2, h3, h4, h5, h6, h8, h9⟩ := h.ex
  exact ⟨⟨S, T, h1, h2, h3, h4, h5, fun x hx => h6 x (q x hx), h8, h9⟩, h.kp, h.ok, h.ok'⟩
theorem Tw.more {w' : World} (h : Tw W w B R gD cap sd lv l d e) (k : Kp noB w w') {g : Nat} {o : Obj} (hg : w.heap.size ≤ g) (ho : w'.heap[g]? = some o) : Tw W w' B R gD cap ((g, o) :: sd) lv l d e := by
  obtain ⟨S, T, h1, h2, h3, h4, h5, h6, h8, h9⟩ := h.ex
  refine ⟨⟨S, T, h1.keep k, h2.kept k (fun _ _ => id), h3, h4, h5, fun x hx => ?_, ⟨h8.own.kept k (fun _ _ => id), h8.out⟩, ⟨h9.own.kept k (fun _ _ => id), h9.out⟩⟩, h.kp.trans k, h.ok, h.ok'⟩
  rcases List.mem_cons.1 hx with q | hx
  · subst q
    exact ⟨fun f => by have := h1.lt _ f; omega, fun f => by have := h2.lt _ f; omega, ho⟩
  · exact ⟨(h6 x hx).1, (h6 x hx).2.1, heap_kept (h6 x hx).2.2 k id⟩
theorem Tw.alloc (h : Tw W w B R gD cap sd lv l d e) (o : Obj) : Tw W (w.alloc o) B R gD cap ((w.heap.size, o) :: sd) lv l d e := h.more (Kp.alloc noB _ _) (Nat.le_refl _) (heap_new _ _)
/-- A cell of what lies aside is changed. -/
theorem Tw.turn {w' : World} {g : Nat} {o o' : Obj} (h : Tw W w B R gD cap [(g, o)] (.slice none 0 0) [] d e) (hW : W.heap.size ≤ g) (k : Kp (isB g) w w') (ho : w'.heap[g]? = some o') : Tw W w' B R gD cap [(g, o')] (.slice none 0 0) [] d e := by
  obtain ⟨S, T, h1, h2, h3, h4, h5, h6, h8, h9⟩ := h.ex
  obtain ⟨q1, q2, q3⟩ := h6 _ (.head _)
  refine ⟨⟨S, T, h1.kept k (fun j hj (q : j = g) => q1 (q ▸ hj)), h2.kept k (fun j hj (q : j = g) => q2 (q ▸ hj)), h3, h4, h5, fun x hx => ?_, ⟨OwnI.nil _, fun g e => by cases e⟩, ⟨OwnI.nil _, fun g e => by cases e⟩⟩, h.kp.over k (fun j hj (q : j = g) => by omega), h.ok, h.ok'⟩
  rw [List.mem_singleton] at hx
  subst hx
  exact ⟨q1, q2, ho⟩
theorem Tw.ints {p : Option Addr} {n c : Nat} (h : Tw W w B R gD cap sd (.slice p n c) l d e) : IntAt w p l := by
  obtain ⟨S, T, h1, h2, h3, h4, h5, h6, h8, h9⟩ := h.ex
  exact h8.own.at
theorem Tw.disk (h : Tw W w B R gD cap sd lv l d e) : Calls Tryz.prog 62 #[.pointer (some ⟨B, 0, none⟩)] w fun r w' => r = .returned (.slice (some ⟨w.heap.size, 0, none⟩) (512 * d.n) (512 * d.n)) ∧ ∃ cur, isRow cur (512 * d.n) d.D ∧ Tw W w' B R gD cap ((w.heap.size, rowO cur) :: sd) lv l d e := by
  obtain ⟨S, T, h1, h2, r⟩ := h.ex
  refine (wDisk h1 h.ok).mono fun r w' ⟨a, b⟩ => ⟨a, ?_⟩
  obtain ⟨cur, c1, c2⟩ := b.row.is
  exact ⟨cur, c1, h.more b.2.1 (Nat.le_refl _) c2⟩
/-- The document's bytes. -/
theorem Tw.bytes (h : Tw W w B R gD cap sd lv l d e) : w.cell? ⟨R, 0, none⟩ = some (.slice (some ⟨gD, 0, none⟩) (512 * e.n) cap) ∧ (convert 22 9 (.slice (some ⟨gD, 0, none⟩) (512 * e.n) cap)).run Tryz.prog w = .ok (.string (strOfNums (strR (512 * e.n) e.D))) w := by
  obtain ⟨S, T, h1, h2, r⟩ := h.ex
  obtain ⟨dn, sv, x1, xd, x2⟩ := h2.ex
  refine ⟨x1.c0, ?_⟩
  have hb : BytAt w (some ⟨gD, 0, none⟩) (512 * e.n) e.D := fun j hj => by
    obtain ⟨cur, c1, c2, c3⟩ := x1.row
    refine ⟨gD, 0, rfl, heap_lt c1, ?_⟩
    rw [cell_at c1, Nat.zero_add]
    exact c3 j hj
  exact hb.str
end
end Go.Proofs.YtclejmdmbanedaaGreat.Dk
