/- The bus and its devices: BsRes, BsMath, BsBase, BrBase, BsTell, BrTell, BsMap. -/
import Derived.Test.YtonfjhbfkichkaaGreatBz03
import Derived.Test.YtonfjhbfkichkaaGreatBz09
import Derived.Test.YtonfjhbfkichkaaGreatBz10
import Derived.Test.YtonfjhbfkichkaaGreatBz02
import Derived.Test.YtonfjhbfkichkaaGreatBz13
import Derived.Test.YtonfjhbfkichkaaGreatBz16
import Derived.Test.YtonfjhbfkichkaaGreatBz18
import Derived.Test.YtonfjhbfkichkaaGreatBz20
import Derived.Test.YtonfjhbfkichkaaGreatBz21
import Derived.Test.YtonfjhbfkichkaaGreatBz25
import Derived.Test.YtonfjhbfkichkaaGreatBz29
import Derived.Test.YtonfjhbfkichkaaGreatBz32
import Derived.Test.YtonfjhbfkichkaaGreatBz35
import Derived.MapKept
namespace Go.Proofs.YtonfjhbfkichkaaGreat.Bs
open Go.ChangeShapes Go.WideShapes Go.ChangeAt Go.RowKit
open Go.Proofs.YtonfjhbfkichkaaGreat.Ut (Kp heap_lt heap_kept heap_set heap_new noB isB kpB)
set_option linter.unusedVariables false
structure Res where
 R : World → (Nat → Prop) → Prop
 loc : ∀ {w w' : World} {S T : Nat → Prop}, R w S → Kp T w w' → (∀ k, S k → ¬ T k) → R w' S
structure Nx (w : World) (S : Nat → Prop) (w' : World) (S' : Nat → Prop) : Prop where
 sub : ∀ k, S' k → S k ∨ w.heap.size ≤ k
 kp : Kp S w w'
theorem Nx.refl (w : World) (S : Nat → Prop) : Nx w S w S := ⟨fun _ f => .inl f, Kp.refl _ _⟩
theorem Nx.trans {a b c : World} {S T U : Nat → Prop} (h : Nx a S b T) (k : Nx b T c U) : Nx a S c U :=
 ⟨fun i g => by
  rcases k.sub i g with f | f
  ·exact h.sub i f
  ·exact .inr (Nat.le_trans h.kp.size f), h.kp.over k.kp (fun j hj g => by
  rcases h.sub j g with f | f
  ·exact f
  ·omega)⟩
theorem Nx.keep {w w' : World} {S : Nat → Prop} (k : Kp noB w w') : Nx w S w' S := ⟨fun _ f => .inl f, k.any⟩
def Res.none : Res := ⟨fun _ _ => True, fun _ _ _ => trivial⟩
def Res.blk (B : Nat) (o : Obj) : Res := ⟨fun w S => S B ∧ w.heap[B]? = some o, fun h k d => ⟨h.1, heap_kept h.2 k (d _ h.1)⟩⟩
def Sys (w : World) (S : Nat → Prop) (Rs : Nat → Res) : Prop := ∃ own : Nat → Nat, ∀ i, ∃ T, (Rs i).R w T ∧ ∀ k, T k → own k = i ∧ S k ∧ k < w.heap.size
def updR (Rs : Nat → Res) (i : Nat) (r : Res) : Nat → Res := fun j => if j = i then r else Rs j
section
variable {w : World} {S : Nat → Prop} {Rs : Nat → Res}
theorem Sys.at (h : Sys w S Rs) (i : Nat) : ∃ T, (Rs i).R w T ∧ ∀ k, T k → S k ∧ k < w.heap.size := by
 obtain ⟨own, hs⟩ := h
 obtain ⟨T, a, b⟩ := hs i
 exact ⟨T, a, fun k g => (b k g).2⟩
theorem Sys.keep {w' : World} (h : Sys w S Rs) (k : Kp noB w w') : Sys w' S Rs := by
 obtain ⟨own, hs⟩ := h
 refine ⟨own, fun i => ?_⟩
 obtain ⟨T, a, b⟩ := hs i
 exact ⟨T, (Rs i).loc a k (fun _ _ => id), fun j g => ⟨(b j g).1, (b j g).2.1, Nat.lt_of_lt_of_le (b j g).2.2 k.size⟩⟩
theorem Sys.drew (h : Sys w S Rs) : Sys w.drew S Rs := h.keep (Kp.refl _ _).drew
theorem Sys.fst (h : Sys w S Rs) (i : Nat) : ∃ T, (Rs i).R w T ∧ (∀ k, T k → S k ∧ k < w.heap.size) ∧ ∀ (r' : Res) (w' : World) (T' : Nat → Prop), r'.R w' T' → Nx w T w' T' → (∀ k, T' k → k < w'.heap.size) → ∃ S', Sys w' S' (updR Rs i r') ∧ Nx w S w' S' := by
 obtain ⟨own, hs⟩ := h
 obtain ⟨T, hT, hb⟩ := hs i
 refine ⟨T, hT, fun k g => (hb k g).2, fun r' w' T' b1 b2 b3 => ⟨fun k => k < w'.heap.size ∧ (S k ∨ w.heap.size ≤ k), ⟨fun k => if w.heap.size ≤ k then i else own k, fun j => ?_⟩, ⟨fun k hk => hk.2, b2.kp.mono (fun k _ g => (hb k g).2.1)⟩⟩⟩
 by_cases e : j = i
 ·subst e
  refine ⟨T', by rw [updR, if_pos rfl]; exact b1, fun k g => ?_⟩
  rcases b2.sub k g with f | f
  ·obtain ⟨c1, c2, c3⟩ := hb k f
   exact ⟨by dsimp only; rw [if_neg (by omega)]; exact c1, ⟨b3 k g, .inl c2⟩, b3 k g⟩
  ·exact ⟨by dsimp only; rw [if_pos f], ⟨b3 k g, .inr f⟩, b3 k g⟩
 ·obtain ⟨Tj, hj, hbj⟩ := hs j
  refine ⟨Tj, by rw [updR, if_neg e]; exact (Rs j).loc hj b2.kp (fun k g f => e ((hbj k g).1.symm.trans (hb k f).1)), fun k g => ?_⟩
  obtain ⟨c1, c2, c3⟩ := hbj k g
  have := b2.kp.size
  exact ⟨by dsimp only; rw [if_neg (by omega)]; exact c1, ⟨by omega, .inl c2⟩, by omega⟩
theorem Sys.fstX (h : Sys w S Rs) (i : Nat) : ∃ T, (Rs i).R w T ∧ (∀ k, T k → S k ∧ k < w.heap.size) ∧ ∀ (r' : Res) (w' : World) (T' : Nat → Prop), r'.R w' T' → Nx w T w' T' → (∀ k, T' k → k < w'.heap.size) → ∃ S', Sys w' S' (updR Rs i r') ∧ Nx w S w' S' ∧ ∀ k, S' k → T k → T' k := by
 obtain ⟨own, hs⟩ := h
 obtain ⟨T, hT, hb⟩ := hs i
 refine ⟨T, hT, fun k g => (hb k g).2, fun r' w' T' b1 b2 b3 => ⟨fun k => (k < w'.heap.size ∧ (S k ∨ w.heap.size ≤ k)) ∧ (T k → T' k), ⟨fun k => if w.heap.size ≤ k then i else own k, fun j => ?_⟩, ⟨fun k hk => hk.1.2, b2.kp.mono (fun k _ g => (hb k g).2.1)⟩, fun k hk g => hk.2 g⟩⟩
 by_cases e : j = i
 ·subst e
  refine ⟨T', by rw [updR, if_pos rfl]; exact b1, fun k g => ?_⟩
  rcases b2.sub k g with f | f
  ·obtain ⟨c1, c2, c3⟩ := hb k f
   exact ⟨by dsimp only; rw [if_neg (by omega)]; exact c1, ⟨⟨b3 k g, .inl c2⟩, fun _ => g⟩, b3 k g⟩
  ·exact ⟨by dsimp only; rw [if_pos f], ⟨⟨b3 k g, .inr f⟩, fun _ => g⟩, b3 k g⟩
 ·obtain ⟨Tj, hj, hbj⟩ := hs j
  have nT : ∀ k, Tj k → ¬ T k := fun k g f => e ((hbj k g).1.symm.trans (hb k f).1)
  refine ⟨Tj, by rw [updR, if_neg e]; exact (Rs j).loc hj b2.kp nT, fun k g => ?_⟩
  obtain ⟨c1, c2, c3⟩ := hbj k g
  have := b2.kp.size
  exact ⟨by dsimp only; rw [if_neg (by omega)]; exact c1, ⟨⟨by omega, .inl c2⟩, fun f => (nT k g f).elim⟩, by omega⟩
theorem Sys.loc {w' : World} {T : Nat → Prop} (h : Sys w S Rs) (k : Kp T w w') (hS : ∀ k, S k → ¬ T k) : Sys w' S Rs := by
 obtain ⟨own, hs⟩ := h
 refine ⟨own, fun i => ?_⟩
 obtain ⟨Ti, a, b⟩ := hs i
 exact ⟨Ti, (Rs i).loc a k (fun j g => hS j (b j g).2.1), fun j g => ⟨(b j g).1, (b j g).2.1, Nat.lt_of_lt_of_le (b j g).2.2 k.size⟩⟩
theorem Sys.call {P : Program} {f : FuncId} {args : Array Value} {E : Ending → Prop} (h : Sys w S Rs) (i : Nat) (r' : Res) (hc : ∀ T, (Rs i).R w T → (∀ k, T k → k < w.heap.size) → Calls P f args w fun e w' => E e ∧ ∃ T', r'.R w' T' ∧ Nx w T w' T' ∧ ∀ k, T' k → k < w'.heap.size) : Calls P f args w fun e w' => E e ∧ ∃ S', Sys w' S' (updR Rs i r') ∧ Nx w S w' S' := by
 obtain ⟨T, a, b, c⟩ := h.fst i
 exact (hc T a (fun k g => (b k g).2)).mono fun e w' ⟨q, T', b1, b2, b3⟩ => ⟨q, c r' w' T' b1 b2 b3⟩
theorem Sys.set (h : Sys w S Rs) {i B : Nat} {o o' : Obj} {w' : World} (hi : Rs i = Res.blk B o) (k : Kp (isB B) w w') (ho : w'.heap[B]? = some o') : ∃ S', Sys w' S' (updR Rs i (Res.blk B o')) ∧ Nx w S w' S' := by
 obtain ⟨T, a, b, c⟩ := h.fst i
 rw [hi] at a
 refine c _ w' T ⟨a.1, ho⟩ ⟨fun _ f => .inl f, k.mono (fun j _ (e : j = B) => e ▸ a.1)⟩ (fun j g => Nat.lt_of_lt_of_le (b j g).2 k.size)
theorem Sys.new (h : Sys w S Rs) {i : Nat} (hi : Rs i = Res.none) {r' : Res} {w' : World} {T' : Nat → Prop} (a : r'.R w' T') (n : ∀ k, T' k → w.heap.size ≤ k ∧ k < w'.heap.size) (k : Kp noB w w') : ∃ S', Sys w' S' (updR Rs i r') ∧ Nx w S w' S' := by
 obtain ⟨own, hs⟩ := h
 refine ⟨fun k => k < w'.heap.size ∧ (S k ∨ w.heap.size ≤ k), ⟨fun k => if w.heap.size ≤ k then i else own k, fun j => ?_⟩, ⟨fun k hk => hk.2, k.any⟩⟩
 by_cases e : j = i
 ·subst e
  refine ⟨T', by rw [updR, if_pos rfl]; exact a, fun k g => ?_⟩
  obtain ⟨c1, c2⟩ := n k g
  exact ⟨by dsimp only; rw [if_pos c1], ⟨c2, .inr c1⟩, c2⟩
 ·obtain ⟨Tj, hj, hbj⟩ := hs j
  refine ⟨Tj, by rw [updR, if_neg e]; exact (Rs j).loc hj k (fun _ _ => id), fun q g => ?_⟩
  obtain ⟨c1, c2, c3⟩ := hbj q g
  have := k.size
  exact ⟨by dsimp only; rw [if_neg (by omega)]; exact c1, ⟨by omega, .inl c2⟩, by omega⟩
theorem Sys.drop (h : Sys w S Rs) (i : Nat) : Sys w S (updR Rs i Res.none) := by
 obtain ⟨own, hs⟩ := h
 refine ⟨own, fun j => ?_⟩
 by_cases e : j = i
 ·subst e
  exact ⟨noB, by rw [updR, if_pos rfl]; trivial, fun _ f => f.elim⟩
 ·obtain ⟨Tj, hj, hbj⟩ := hs j
  exact ⟨Tj, by rw [updR, if_neg e]; exact hj, hbj⟩
theorem Sys.none (w : World) : Sys w noB (fun _ => Res.none) := ⟨fun _ => 0, fun i => ⟨noB, trivial, fun _ f => f.elim⟩⟩
theorem Sys.lt (h : Sys w S Rs) : Sys w (fun k => S k ∧ k < w.heap.size) Rs := by
 obtain ⟨own, hs⟩ := h
 refine ⟨own, fun i => ?_⟩
 obtain ⟨T, a, b⟩ := hs i
 exact ⟨T, a, fun k g => ⟨(b k g).1, ⟨(b k g).2.1, (b k g).2.2⟩, (b k g).2.2⟩⟩
theorem Sys.split (h : Sys w S Rs) (i j : Nat) (ij : i ≠ j) (hj : Rs j = Res.none) : ∃ T, (Rs i).R w T ∧ (∀ k, T k → S k ∧ k < w.heap.size) ∧ ∀ (r' q' : Res) (w' : World) (T' U' : Nat → Prop), r'.R w' T' → q'.R w' U' → Nx w T w' T' → (∀ k, T' k → k < w'.heap.size) → (∀ k, U' k → (T k ∨ w.heap.size ≤ k) ∧ k < w'.heap.size ∧ ¬ T' k) → ∃ S', Sys w' S' (updR (updR Rs i r') j q') ∧ Nx w S w' S' := by
 obtain ⟨own, hs⟩ := h
 obtain ⟨T, hT, hb⟩ := hs i
 refine ⟨T, hT, fun k g => (hb k g).2, fun r' q' w' T' U' b1 q1 b2 b3 u1 => ?_⟩
 classical
 refine ⟨fun k => k < w'.heap.size ∧ (S k ∨ w.heap.size ≤ k), ⟨fun k => if U' k then j else if w.heap.size ≤ k then i else own k, fun l => ?_⟩, ⟨fun k hk => hk.2, b2.kp.mono (fun k _ g => (hb k g).2.1)⟩⟩
 by_cases e : l = j
 ·subst e
  refine ⟨U', by rw [updR, if_pos rfl]; exact q1, fun k g => ?_⟩
  obtain ⟨c1, c2, c3⟩ := u1 k g
  refine ⟨by dsimp only; rw [if_pos g], ⟨c2, ?_⟩, c2⟩
  rcases c1 with f | f
  ·exact .inl (hb k f).2.1
  ·exact .inr f
 ·by_cases e' : l = i
  ·subst e'
   refine ⟨T', by rw [updR, if_neg e, updR, if_pos rfl]; exact b1, fun k g => ?_⟩
   have nu : ¬ U' k := fun f => (u1 k f).2.2 g
   rcases b2.sub k g with f | f
   ·obtain ⟨c1, c2, c3⟩ := hb k f
    exact ⟨by dsimp only; rw [if_neg nu, if_neg (by omega)]; exact c1, ⟨b3 k g, .inl c2⟩, b3 k g⟩
   ·exact ⟨by dsimp only; rw [if_neg nu, if_pos f], ⟨b3 k g, .inr f⟩, b3 k g⟩
  ·obtain ⟨Tl, hl, hbl⟩ := hs l
   refine ⟨Tl, by rw [updR, if_neg e, updR, if_neg e']; exact (Rs l).loc hl b2.kp (fun k g f => e' ((hbl k g).1.symm.trans (hb k f).1)), fun k g => ?_⟩
   obtain ⟨c1, c2, c3⟩ := hbl k g
   have := b2.kp.size
   have nu : ¬ U' k := fun f => by
    rcases (u1 k f).1 with x | x
    ·exact e' (c1.symm.trans (hb k x).1)
    ·omega
   exact ⟨by dsimp only; rw [if_neg nu, if_neg (by omega)]; exact c1, ⟨by omega, .inl c2⟩, by omega⟩
end
end Go.Proofs.YtonfjhbfkichkaaGreat.Bs
namespace Go.Proofs.YtonfjhbfkichkaaGreat.Bs
open Go.RowKit
set_option linter.unusedVariables false
structure Bm where
 p : Pc.M2
 f : Nat → Pt.Cn
 u : Ut.U
 d : Dk.Id
 m : Rm.Mem
 cl : Bool
 now : Int
def Bm.tell (x : Bm) : Bm := { x with p := ((x.p.line 0 ((x.f 0).line x.now)).line 4 x.u.ln).line 14 x.d.line }
inductive Dv where
 | pic
 | pit
 | uart
 | ide
 | gate
def portOf (p : Int) : Option (Dv × Int) :=
 if p = 32 ∨ p = 33 then some (.pic, p - 32) else if p = 160 ∨ p = 161 then some (.pic, p - 158) else if 64 ≤ p ∧ p < 68 then some (.pit, p - 64)
 else if 1016 ≤ p ∧ p < 1024 then some (.uart, p - 1016) else if 496 ≤ p ∧ p < 504 then some (.ide, p - 496) else if p = 1014 then some (.ide, 8) else if p = 146 then some (.gate, 0) else none
def shutV (v : Int) : Bool := v / 2 % 2 == 0
def Bm.outD (x : Bm) (v : Int) : Option (Dv × Int) → Bm
 | some (.pic, a) => { x with p := x.p.out a v }
 | some (.pit, a) => { x with f := Pt.outF x.f a v x.now }
 | some (.uart, a) => { x with u := x.u.out a v }
 | some (.ide, a) => { x with d := x.d.o a 1 v }
 | some (.gate, _) => { x with cl := shutV v, m := { x.m with closed := shutV v } }
 | none => x
def Bm.inD (x : Bm) : Option (Dv × Int) → Bm
 | some (.pit, a) => { x with f := Pt.innF x.f a }
 | some (.uart, a) => { x with u := x.u.inn a }
 | some (.ide, a) => { x with d := x.d.i a 1 }
 | _ => x
def gateV (b : Bool) : Int := if b = true then 0 else 2
def Bm.inDV (x : Bm) : Option (Dv × Int) → Int
 | some (.pic, a) => x.p.inn a
 | some (.pit, a) => Pt.innV x.f a x.now
 | some (.uart, a) => x.u.inV a
 | some (.ide, a) => x.d.iV a 1 % 256
 | some (.gate, _) => gateV x.cl
 | none => 255
def Bm.out1 (x : Bm) (p v : Int) : Bm := x.outD v (portOf p)
def Bm.in1 (x : Bm) (p : Int) : Bm := x.inD (portOf p)
def Bm.inV1 (x : Bm) (p : Int) : Int := x.inDV (portOf p)
def nxt (p : Int) : Int := (p + 1) % 65536
def Bm.outN : Nat → Bm → Int → Int → Bm
 | 0, x, _, _ => x
 | n + 1, x, p, v => Bm.outN n (x.out1 p (v % 256)) (nxt p) (v / 256)
def Bm.inN : Nat → Bm → Int → Bm
 | 0, x, _ => x
 | n + 1, x, p => Bm.inN n (x.in1 p) (nxt p)
def Bm.inVN : Nat → Bm → Int → Int
 | 0, _, _ => 0
 | n + 1, x, p => x.inV1 p + 256 * Bm.inVN n (x.in1 p) (nxt p)
def okS (s : Int) : Prop := s = 1 ∨ s = 2 ∨ s = 4
instance (s : Int) : Decidable (okS s) := by unfold okS; exact inferInstance
def Bm.put (x : Bm) (p s v : Int) : Bm := if p = 496 then { x with d := x.d.o 0 s v } else x.outN s.toNat p v
def Bm.got (x : Bm) (p s : Int) : Bm := if p = 496 then { x with d := x.d.i 0 s } else x.inN s.toNat p
def Bm.gotV (x : Bm) (p s : Int) : Int := if p = 496 then x.d.iV 0 s else x.inVN s.toNat p
def Bm.out (x : Bm) (p s v : Int) : Bm := if okS s then (x.put p s v).tell else x
def Bm.inn (x : Bm) (p s : Int) : Bm := if okS s then (x.got p s).tell else x
def Bm.innV (x : Bm) (p s : Int) : Int := if okS s then x.gotV p s else 0
def erS (s : Int) : Int := if okS s then 0 else 2
def Bm.tick1 (x : Bm) : Bm := ({ x with now := (x.now + 1) % 18446744073709551616 } : Bm).tell
def Bm.ticks : Nat → Bm → Bm
 | 0, x => x
 | n + 1, x => Bm.ticks n x.tick1
def Bm.skip (x : Bm) (n : Int) : Bm := { x with now := (x.now + n) % 18446744073709551616 }
def Bm.push (x : Bm) (v : Int) : Bm := ({ x with u := x.u.push v } : Bm).tell
def Bm.ack (x : Bm) : Bm := ({ x with p := x.p.ack } : Bm).tell
def Byt (x : Int) : Prop := 0 ≤ x ∧ x < 256
structure Bm.Ok (x : Bm) : Prop where
 p : x.p.Ok
 st : x.p.settle = x.p
 f : Pt.Oks x.f
 u : x.u.Ok
 d : x.d.Ok
 n0 : 0 ≤ x.now
 n1 : x.now < 18446744073709551616
theorem settle_idem {m : Pc.M2} (k : m.Ok) : m.settle.settle = m.settle := by
 have e : m.settle.settle.a.asks = m.settle.a.asks := Pc.by_ext k.settle.settle.a.asks k.settle.a.asks fun j hj => by
  rw [Pc.settle_asks k.settle, Pc.settle_asks k]
  by_cases q : j = 2
  ·subst q; rw [if_pos rfl]; rfl
  ·rw [if_neg q, if_neg q]
 have e2 : m.settle.settle = ⟨{ m.settle.a with asks := m.settle.settle.a.asks }, m.settle.b⟩ := rfl
 rw [e2, e]
theorem line_st {m : Pc.M2} (k : m.Ok) {n : Int} (n0 : 0 ≤ n) (n1 : n < 16) (u : Bool) : (m.line n u).settle = m.line n u := by
 unfold Pc.M2.line
 apply settle_idem
 split
 ·exact k
 ·split
  ·exact k.set false (k.a.line n0 (by omega) u)
  ·exact k.set true (k.b.line (by omega) (by omega) u)
theorem out_st {m : Pc.M2} (k : m.Ok) {p v : Int} (hv : Pc.By v) : (m.out p v).settle = m.out p v := by
 unfold Pc.M2.out
 apply settle_idem
 split
 ·exact k.set false (k.a.cmd hv)
 ·split
  ·exact k.set false (k.a.dat hv)
  ·split
   ·exact k.set true (k.b.cmd hv)
   ·exact k.set true (k.b.dat hv)
theorem ack_st {m : Pc.M2} (k : m.Ok) : m.ack.settle = m.ack := settle_idem k.acks
theorem Bm.Ok.tell {x : Bm} (h : x.Ok) : x.tell.Ok := by
 have k1 := h.p.line (n := 0) (by decide) (by decide) ((x.f 0).line x.now)
 have k2 := k1.line (n := 4) (by decide) (by decide) x.u.ln
 have k3 := k2.line (n := 14) (by decide) (by decide) x.d.line
 exact { h with p := k3, st := line_st k2 (by decide) (by decide) _ }
theorem Bm.Ok.outD {x : Bm} (h : x.Ok) {v : Int} (hv : Byt v) (o : Option (Dv × Int)) : (x.outD v o).Ok := by
 unfold Bm.outD
 split
 ·exact { h with p := h.p.out hv, st := out_st h.p hv }
 ·exact { h with f := h.f.out hv.1 hv.2 h.n0 h.n1 }
 ·exact { h with u := h.u.out _ hv }
 ·exact { h with d := h.d.o _ _ _ }
 ·exact { h with }
 ·exact h
theorem Bm.Ok.inD {x : Bm} (h : x.Ok) (o : Option (Dv × Int)) : (x.inD o).Ok := by
 unfold Bm.inD
 split
 ·exact { h with f := h.f.inn _ }
 ·exact { h with u := h.u.inn _ }
 ·exact { h with d := h.d.i _ _ }
 ·exact h
theorem Bm.Ok.outN : ∀ (n : Nat) {x : Bm} (h : x.Ok) (p v : Int), (Bm.outN n x p v).Ok
 | 0, _, h, _, _ => h
 | n + 1, _, h, p, v => Bm.Ok.outN n (h.outD ⟨by omega, by omega⟩ _) _ _
theorem Bm.Ok.inN : ∀ (n : Nat) {x : Bm} (h : x.Ok) (p : Int), (Bm.inN n x p).Ok
 | 0, _, h, _ => h
 | n + 1, _, h, p => Bm.Ok.inN n (h.inD _) _
theorem Bm.Ok.put {x : Bm} (h : x.Ok) (p s v : Int) : (x.put p s v).Ok := by
 unfold Bm.put
 split
 ·exact { h with d := h.d.o _ _ _ }
 ·exact .outN _ h _ _
theorem Bm.Ok.got {x : Bm} (h : x.Ok) (p s : Int) : (x.got p s).Ok := by
 unfold Bm.got
 split
 ·exact { h with d := h.d.i _ _ }
 ·exact .inN _ h _
theorem Bm.Ok.out {x : Bm} (h : x.Ok) (p s v : Int) : (x.out p s v).Ok := by
 unfold Bm.out
 split
 ·exact (h.put p s v).tell
 ·exact h
theorem Bm.Ok.inn {x : Bm} (h : x.Ok) (p s : Int) : (x.inn p s).Ok := by
 unfold Bm.inn
 split
 ·exact (h.got p s).tell
 ·exact h
theorem Bm.Ok.skip {x : Bm} (h : x.Ok) (n : Int) : (x.skip n).Ok := { h with n0 := by show 0 ≤ (x.now + n) % 18446744073709551616; omega, n1 := by show (x.now + n) % 18446744073709551616 < _; omega }
theorem Bm.Ok.tick1 {x : Bm} (h : x.Ok) : x.tick1.Ok := (h.skip 1).tell
theorem Bm.Ok.ticks : ∀ (n : Nat) {x : Bm} (h : x.Ok), (Bm.ticks n x).Ok
 | 0, _, h => h
 | n + 1, _, h => Bm.Ok.ticks n h.tick1
theorem Bm.Ok.push {x : Bm} (h : x.Ok) {v : Int} (hv : Byt v) : (x.push v).Ok := Bm.Ok.tell { h with u := h.u.push hv }
theorem Bm.Ok.ack {x : Bm} (h : x.Ok) : x.ack.Ok := Bm.Ok.tell { h with p := h.p.ack, st := ack_st h.p }
def Bm.wk (x : Bm) : Nat := x.u.sent.length + x.d.work
theorem u_sent (u : Ut.U) (n v : Int) : (u.out n v).sent.length ≤ u.sent.length + 1 := by
 unfold Ut.U.out Ut.U.wants Ut.U.turn Ut.U.send
 repeat' split
 all_goals simp
theorem u_inn (u : Ut.U) (n : Int) : (u.inn n).sent = u.sent := by
 unfold Ut.U.inn Ut.U.took Ut.U.telling
 repeat' split
 all_goals rfl
theorem u_push (u : Ut.U) (v : Int) : (u.push v).sent = u.sent := by
 unfold Ut.U.push
 split <;> rfl
theorem tell_wk (x : Bm) : x.tell.wk = x.wk := rfl
theorem outD_wk {x : Bm} (h : x.Ok) (v : Int) (o : Option (Dv × Int)) : (x.outD v o).wk ≤ x.wk + 4 := by
 unfold Bm.outD
 split
 ·exact Nat.le_add_right _ _
 ·exact Nat.le_add_right _ _
 ·rename_i a
  have := u_sent x.u a v
  show (x.u.out a v).sent.length + x.d.work ≤ x.u.sent.length + x.d.work + 4
  omega
 ·rename_i a
  have := Dk.o_work h.d a 1 v
  show x.u.sent.length + (x.d.o a 1 v).work ≤ x.u.sent.length + x.d.work + 4
  omega
 ·exact Nat.le_add_right _ _
 ·exact Nat.le_add_right _ _
theorem inD_wk (x : Bm) (o : Option (Dv × Int)) : (x.inD o).wk ≤ x.wk := by
 unfold Bm.inD
 split
 ·exact Nat.le_refl _
 ·rename_i a
  show (x.u.inn a).sent.length + x.d.work ≤ x.u.sent.length + x.d.work
  rw [u_inn]
  exact Nat.le_refl _
 ·rename_i a
  have := Dk.i_work x.d a 1
  show x.u.sent.length + (x.d.i a 1).work ≤ x.u.sent.length + x.d.work
  omega
 ·exact Nat.le_refl _
theorem outN_wk : ∀ (n : Nat) {x : Bm} (h : x.Ok) (p v : Int), (Bm.outN n x p v).wk ≤ x.wk + 4 * n
 | 0, _, _, _, _ => Nat.le_refl _
 | n + 1, x, h, p, v => by
  have h1 := outN_wk n (h.outD (v := v % 256) ⟨by omega, by omega⟩ (portOf p)) (nxt p) (v / 256)
  have h2 := outD_wk h (v % 256) (portOf p)
  show (Bm.outN n (x.outD (v % 256) (portOf p)) (nxt p) (v / 256)).wk ≤ _
  omega
theorem inN_wk : ∀ (n : Nat) (x : Bm) (p : Int), (Bm.inN n x p).wk ≤ x.wk
 | 0, _, _ => Nat.le_refl _
 | n + 1, x, p => Nat.le_trans (inN_wk n _ _) (inD_wk x _)
theorem out_wk {x : Bm} (h : x.Ok) (p s v : Int) : (x.out p s v).wk ≤ x.wk + 16 := by
 unfold Bm.out
 split
 ·rename_i hs
  rw [tell_wk]
  unfold Bm.put
  split
  ·have := Dk.o_work h.d 0 s v
   show x.u.sent.length + (x.d.o 0 s v).work ≤ x.u.sent.length + x.d.work + 16
   omega
  ·have := outN_wk s.toNat h p v
   have : s.toNat ≤ 4 := by unfold okS at hs; omega
   omega
 ·omega
theorem inn_wk (x : Bm) (p s : Int) : (x.inn p s).wk ≤ x.wk := by
 unfold Bm.inn
 split
 ·rw [tell_wk]
  unfold Bm.got
  split
  ·have := Dk.i_work x.d 0 s
   show x.u.sent.length + (x.d.i 0 s).work ≤ x.u.sent.length + x.d.work
   omega
  ·exact inN_wk _ _ _
 ·exact Nat.le_refl _
theorem ticks_wk : ∀ (n : Nat) (x : Bm), (Bm.ticks n x).wk = x.wk
 | 0, _ => rfl
 | n + 1, x => ticks_wk n x.tick1
theorem push_wk (x : Bm) (v : Int) : (x.push v).wk = x.wk := by
 show (x.u.push v).sent.length + x.d.work = _
 rw [u_push]
 rfl
open Go.ChangeShapes Go.WideShapes Go.ChangeAt
open Go.Proofs.YtonfjhbfkichkaaGreat.Ut (Kp heap_lt heap_kept heap_set heap_new noB isB kpB)
set_option maxRecDepth 20000
theorem kPc {S : Nat → Prop} {w w' : World} (h : Pc.Kp S w w') : Kp S w w' := ⟨h.os, h.tape, h.output, h.size, h.block⟩
theorem kPt {S : Nat → Prop} {w w' : World} (h : Pt.Kp S w w') : Kp S w w' := ⟨h.os, h.tape, h.output, h.size, h.block⟩
theorem kDk {S : Nat → Prop} {w w' : World} (h : Dk.Kp S w w') : Kp S w w' := ⟨h.os, h.tape, h.output, h.size, h.block⟩
theorem kRm {S : Nat → Prop} {w w' : World} (h : Rm.Kp S w w') : Kp S w w' := ⟨h.os, h.tape, h.output, h.size, h.block⟩
theorem pcK {S : Nat → Prop} {w w' : World} (h : Kp S w w') : Pc.Kp S w w' := ⟨h.os, h.tape, h.output, h.size, h.block⟩
theorem ptK {S : Nat → Prop} {w w' : World} (h : Kp S w w') : Pt.Kp S w w' := ⟨h.os, h.tape, h.output, h.size, h.block⟩
theorem dkK {S : Nat → Prop} {w w' : World} (h : Kp S w w') : Dk.Kp S w w' := ⟨h.os, h.tape, h.output, h.size, h.block⟩
theorem rmK {S : Nat → Prop} {w w' : World} (h : Kp S w w') : Rm.Kp S w w' := ⟨h.os, h.tape, h.output, h.size, h.block⟩
def picR (P : Nat) (m : Pc.M2) : Res := ⟨fun w S => S P ∧ Pc.PAt w P m, fun h k d => ⟨h.1, h.2.kept (pcK k) (d _ h.1)⟩⟩
def pitR (T : Nat) (f : Nat → Pt.Cn) : Res := ⟨fun w S => S T ∧ Pt.PAt w T f, fun h k d => ⟨h.1, h.2.kept (ptK k) (d _ h.1)⟩⟩
def uartR (U : Nat) (u : Ut.U) : Res := ⟨fun w S => Ut.UW w S U u, fun h k d => h.kept k d⟩
def ideR (I : Nat) (d : Dk.Id) : Res := ⟨fun w S => Dk.IW w S I d, fun h k e => h.kept (dkK k) e⟩
def ramR (M : Nat) (m : Rm.Mem) : Res := ⟨fun w S => Rm.RamAt w M m ∧ ∀ k, Rm.inRam M m.n k → S k, fun h k d => ⟨h.1.kp (rmK k) (fun j hj => d j (h.2 j hj)), h.2⟩⟩
structure Loc where
 B : Nat
 Q : Nat
 P : Nat
 T : Nat
 U : Nat
 I : Nat
 M : Nat
def ptr (b : Nat) : Value := .pointer (some ⟨b, 0, none⟩)
def entV (at_ : Int) (o i : Nat) (b : Nat) : Value := .agg #[.int .i64 at_, .func (.func o) #[ptr b] #[], .func (.func i) #[ptr b] #[]]
def portV (L : Loc) : Dv × Int → Value
 | (.pic, a) => entV a 60 61 L.P
 | (.pit, a) => entV a 62 63 L.B
 | (.uart, a) => entV a 64 65 L.U
 | (.ide, a) => entV a 66 67 L.B
 | (.gate, a) => entV a 68 69 L.B
def ports : List (Int × (Dv × Int)) :=
 [(32, (.pic, 0)), (33, (.pic, 1)), (160, (.pic, 2)), (161, (.pic, 3)), (64, (.pit, 0)), (65, (.pit, 1)), (66, (.pit, 2)), (67, (.pit, 3)),
   (1016, (.uart, 0)), (1017, (.uart, 1)), (1018, (.uart, 2)), (1019, (.uart, 3)), (1020, (.uart, 4)), (1021, (.uart, 5)), (1022, (.uart, 6)), (1023, (.uart, 7)),
   (496, (.ide, 0)), (497, (.ide, 1)), (498, (.ide, 2)), (499, (.ide, 3)), (500, (.ide, 4)), (501, (.ide, 5)), (502, (.ide, 6)), (503, (.ide, 7)), (1014, (.ide, 8)), (146, (.gate, 0))]
def esFrom (L : Loc) : List (Int × (Dv × Int)) → Nat → List MapEntry
 | [], _ => []
 | e :: es, n => ⟨.int .u16 e.1, portV L e.2, n⟩ :: esFrom L es (n + 1)
def mapO (L : Loc) (l : List (Int × (Dv × Int))) : Obj := .map (esFrom L l 0).toArray l.length
def busC (L : Loc) (cl : Bool) (now : Int) : Array Value := #[ptr L.P, ptr L.T, ptr L.U, ptr L.I, .pointer (some ⟨L.M + 3, 0, none⟩), .bool cl, .int .u64 now, .map (some L.Q)]
def busO (L : Loc) (cl : Bool) (now : Int) : Obj := .cells (busC L cl now) 86 (0, 0)
def busRs (L : Loc) (x : Bm) : Nat → Res
 | 0 => .blk L.B (busO L x.cl x.now)
 | 1 => .blk L.Q (mapO L ports)
 | 2 => picR L.P x.p
 | 3 => pitR L.T x.f
 | 4 => uartR L.U x.u
 | 5 => ideR L.I x.d
 | 6 => ramR L.M x.m
 | _ => .none
def BW (w : World) (S : Nat → Prop) (L : Loc) (x : Bm) : Prop := Sys w S (busRs L x)
def BNx (w : World) (S : Nat → Prop) (L : Loc) (x : Bm) (w' : World) : Prop := ∃ S', BW w' S' L x ∧ Nx w S w' S'
theorem up2 (L : Loc) (x : Bm) (m : Pc.M2) : updR (busRs L x) 2 (picR L.P m) = busRs L { x with p := m } := by
 funext j
 match j with
 | 0 | 1 | 2 | 3 | 4 | 5 | 6 => rfl
 | n + 7 => rfl
theorem up3 (L : Loc) (x : Bm) (m : Nat → Pt.Cn) : updR (busRs L x) 3 (pitR L.T m) = busRs L { x with f := m } := by
 funext j
 match j with
 | 0 | 1 | 2 | 3 | 4 | 5 | 6 => rfl
 | n + 7 => rfl
theorem up4 (L : Loc) (x : Bm) (m : Ut.U) : updR (busRs L x) 4 (uartR L.U m) = busRs L { x with u := m } := by
 funext j
 match j with
 | 0 | 1 | 2 | 3 | 4 | 5 | 6 => rfl
 | n + 7 => rfl
theorem up5 (L : Loc) (x : Bm) (m : Dk.Id) : updR (busRs L x) 5 (ideR L.I m) = busRs L { x with d := m } := by
 funext j
 match j with
 | 0 | 1 | 2 | 3 | 4 | 5 | 6 => rfl
 | n + 7 => rfl
theorem up6 (L : Loc) (x : Bm) (m : Rm.Mem) : updR (busRs L x) 6 (ramR L.M m) = busRs L { x with m := m } := by
 funext j
 match j with
 | 0 | 1 | 2 | 3 | 4 | 5 | 6 => rfl
 | n + 7 => rfl
theorem up0 (L : Loc) (x : Bm) (cl : Bool) (now : Int) : updR (busRs L x) 0 (.blk L.B (busO L cl now)) = busRs L { x with cl := cl, now := now } := by
 funext j
 match j with
 | 0 | 1 | 2 | 3 | 4 | 5 | 6 => rfl
 | n + 7 => rfl
section
variable {w : World} {S : Nat → Prop} {L : Loc} {x : Bm}
theorem BW.blk (h : BW w S L x) : w.heap[L.B]? = some (busO L x.cl x.now) := by
 obtain ⟨T, a, b⟩ := h.at 0
 exact a.2
theorem BW.map (h : BW w S L x) : w.heap[L.Q]? = some (mapO L ports) := by
 obtain ⟨T, a, b⟩ := h.at 1
 exact a.2
theorem BW.cell (h : BW w S L x) {k : Nat} {v : Value} (e : (busC L x.cl x.now)[k]? = some v) : w.cell? ⟨L.B, k, none⟩ = some v := by
 simp [World.cell?, h.blk, busO, e]
theorem BW.c0 (h : BW w S L x) : w.cell? ⟨L.B, 0, none⟩ = some (.pointer (some ⟨L.P, 0, none⟩)) := h.cell rfl
theorem BW.c1 (h : BW w S L x) : w.cell? ⟨L.B, 1, none⟩ = some (.pointer (some ⟨L.T, 0, none⟩)) := h.cell rfl
theorem BW.c2 (h : BW w S L x) : w.cell? ⟨L.B, 2, none⟩ = some (.pointer (some ⟨L.U, 0, none⟩)) := h.cell rfl
theorem BW.c3 (h : BW w S L x) : w.cell? ⟨L.B, 3, none⟩ = some (.pointer (some ⟨L.I, 0, none⟩)) := h.cell rfl
theorem BW.c4 (h : BW w S L x) : w.cell? ⟨L.B, 4, none⟩ = some (.pointer (some ⟨L.M + 3, 0, none⟩)) := h.cell rfl
theorem BW.c5 (h : BW w S L x) : w.cell? ⟨L.B, 5, none⟩ = some (.bool x.cl) := h.cell rfl
theorem BW.c6 (h : BW w S L x) : w.cell? ⟨L.B, 6, none⟩ = some (.int .u64 x.now) := h.cell rfl
theorem BW.c7 (h : BW w S L x) : w.cell? ⟨L.B, 7, none⟩ = some (.map (some L.Q)) := h.cell rfl
theorem BW.fz (h : BW w S L x) (j : Nat) : w.frozen? ⟨L.B, j, none⟩ = false := by simp [World.frozen?, h.blk, busO]
theorem BW.drew (h : BW w S L x) : BW w.drew S L x := Sys.drew h
theorem BW.keep {w' : World} (h : BW w S L x) (k : Kp noB w w') : BW w' S L x := Sys.keep h k
theorem BNx.refl (h : BW w S L x) : BNx w S L x w := ⟨S, h, Nx.refl _ _⟩
theorem BNx.keep {w' : World} (h : BW w S L x) (k : Kp noB w w') : BNx w S L x w' := ⟨S, h.keep k, Nx.keep k⟩
theorem BW.lt (h : BW w S L x) : BW w (fun k => S k ∧ k < w.heap.size) L x := Sys.lt h
theorem bPic {f : FuncId} {args : Array Value} {E : Ending → Prop} {m : Pc.M2} (h : BW w S L x) (hc : Pc.PAt w L.P x.p → Calls Tryz.prog f args w fun e w' => E e ∧ Pc.PAt w' L.P m ∧ Pc.Kp (Pc.isB L.P) w w') : Calls Tryz.prog f args w fun e w' => E e ∧ BNx w S L { x with p := m } w' := by
 unfold BNx BW
 rw [← up2]
 refine Sys.call h 2 _ fun T a b => (hc a.2).mono fun e w' ⟨q, p1, k⟩ => ⟨q, T, ⟨a.1, p1⟩, ⟨fun _ f => .inl f, (kPc k).mono fun j _ (g : j = L.P) => g ▸ a.1⟩, fun j g => Nat.lt_of_lt_of_le (b j g) k.size⟩
theorem bPit {f : FuncId} {args : Array Value} {E : Ending → Prop} {m : Nat → Pt.Cn} (h : BW w S L x) (hc : Pt.PAt w L.T x.f → Calls Tryz.prog f args w fun e w' => E e ∧ Pt.PAt w' L.T m ∧ Pt.Kp (Pt.isB L.T) w w') : Calls Tryz.prog f args w fun e w' => E e ∧ BNx w S L { x with f := m } w' := by
 unfold BNx BW
 rw [← up3]
 refine Sys.call h 3 _ fun T a b => (hc a.2).mono fun e w' ⟨q, p1, k⟩ => ⟨q, T, ⟨a.1, p1⟩, ⟨fun _ f => .inl f, (kPt k).mono fun j _ (g : j = L.T) => g ▸ a.1⟩, fun j g => Nat.lt_of_lt_of_le (b j g) k.size⟩
theorem bPitK {f : FuncId} {args : Array Value} {E : Ending → Prop} (h : BW w S L x) (hc : Pt.PAt w L.T x.f → Calls Tryz.prog f args w fun e w' => E e ∧ Pt.Kp Pt.noB w w') : Calls Tryz.prog f args w fun e w' => E e ∧ BNx w S L x w' := by
 obtain ⟨T, a, b⟩ := Sys.at h 3
 exact (hc a.2).mono fun e w' ⟨q, k⟩ => ⟨q, .keep h (kPt k)⟩
theorem bUart {f : FuncId} {args : Array Value} {E : Ending → Prop} {m : Ut.U} (h : BW w S L x) (hc : ∀ T, Ut.UW w T L.U x.u → Calls Tryz.prog f args w fun e w' => E e ∧ Ut.UNx w T L.U m w') : Calls Tryz.prog f args w fun e w' => E e ∧ BNx w S L { x with u := m } w' := by
 unfold BNx BW
 rw [← up4]
 exact Sys.call h 4 _ fun T a b => (hc T a).mono fun e w' ⟨q, T', p1, k⟩ => ⟨q, T', p1, ⟨k.sub, k.kp⟩, p1.lt⟩
theorem bIde {f : FuncId} {args : Array Value} {E : Ending → Prop} {m : Dk.Id} (h : BW w S L x) (hc : ∀ T, Dk.IW w T L.I x.d → Calls Tryz.prog f args w fun e w' => E e ∧ Dk.INx w T L.I m w') : Calls Tryz.prog f args w fun e w' => E e ∧ BNx w S L { x with d := m } w' := by
 unfold BNx BW
 rw [← up5]
 exact Sys.call h 5 _ fun T a b => (hc T a).mono fun e w' ⟨q, T', p1, k⟩ => ⟨q, T', p1, ⟨k.sub, kDk k.kp⟩, p1.lt⟩
theorem bRam {f : FuncId} {args : Array Value} {E : Ending → Prop} {m : Rm.Mem} (h : BW w S L x) (hn : m.n = x.m.n) (hc : Rm.RamAt w L.M x.m → Calls Tryz.prog f args w fun e w' => E e ∧ Rm.RamAt w' L.M m ∧ Rm.Kp (Rm.inRam L.M x.m.n) w w') : Calls Tryz.prog f args w fun e w' => E e ∧ BNx w S L { x with m := m } w' := by
 unfold BNx BW
 rw [← up6]
 exact Sys.call h 6 _ fun T a b => (hc a.1).mono fun e w' ⟨q, p1, k⟩ => ⟨q, T, ⟨p1, fun j hj => a.2 j (hn ▸ hj)⟩, ⟨fun _ f => .inl f, (kRm k).mono fun j _ g => a.2 j g⟩, fun j g => Nat.lt_of_lt_of_le (b j g) k.size⟩
theorem bRamK {f : FuncId} {args : Array Value} {E : Ending → Prop} (h : BW w S L x) (hc : Rm.RamAt w L.M x.m → Calls Tryz.prog f args w fun e w' => E e ∧ Rm.Kp Rm.noB w w') : Calls Tryz.prog f args w fun e w' => E e ∧ BNx w S L x w' := by
 obtain ⟨T, a, b⟩ := Sys.at h 6
 exact (hc a.1).mono fun e w' ⟨q, k⟩ => ⟨q, .keep h (kRm k)⟩
theorem bSet {v : Value} {k : Nat} (h : BW w S L x) (cl : Bool) (now : Int) (e : (busC L x.cl x.now).setIfInBounds k v = busC L cl now) : BNx w S L { x with cl := cl, now := now } (w.setCell ⟨L.B, k, none⟩ v) := by
 unfold BNx BW
 rw [← up0]
 refine Sys.set h (i := 0) rfl (kpB L.B w k v) ?_
 rw [heap_set h.blk, e]
 rfl
end
structure LocR where
 B : Nat
 P : Nat
 T : Nat
 U : Nat
 I : Nat
 gD : Nat
 cap : Nat
 M : Nat
 V0 : Value
 V1 : Value
 V2 : Value
 V3 : Value
def picX (P : Nat) (m : Pc.M2) : Res := ⟨fun w S => S P ∧ Pc.RWS w S P m, fun h k d => ⟨h.1, h.2.kept h.1 (pcK k) d⟩⟩
def pitX (T : Nat) (f : Nat → Pt.Cn) : Res := ⟨fun w S => S T ∧ Pt.RW w T f, fun h k d => ⟨h.1, h.2.kept (ptK k) (d _ h.1)⟩⟩
def uartX (U : Nat) (u : Ut.U) : Res := ⟨fun w S => Ut.RW w S U u, fun h k d => h.kept k d⟩
def ideX (I gD cap : Nat) (d : Dk.Id) : Res := ⟨fun w S => Dk.XW w S I gD cap d, fun h k e => h.kept (dkK k) e⟩
def docC (L : LocR) (now : Int) : Array Value := #[ptr L.M, ptr L.P, ptr L.T, ptr L.U, ptr L.I, .int .u64 now]
def docO (L : LocR) (now : Int) : Obj := .cells (docC L now) 51 (0, 0)
def refC (L : LocR) (cl : Bool) : Array Value := #[L.V0, L.V1, L.V2, L.V3, .bool cl]
def refO (L : LocR) (cl : Bool) : Obj := .cells (refC L cl) 58 (0, 0)
def docRs (L : LocR) (x : Bm) : Nat → Res
 | 0 => .blk L.B (docO L x.now)
 | 1 => .none
 | 2 => picX L.P x.p
 | 3 => pitX L.T x.f
 | 4 => uartX L.U x.u
 | 5 => ideX L.I L.gD L.cap x.d
 | 6 => .blk L.M (refO L x.cl)
 | _ => .none
def DW (w : World) (S : Nat → Prop) (L : LocR) (x : Bm) : Prop := Sys w S (docRs L x)
def DNx (w : World) (S : Nat → Prop) (L : LocR) (x : Bm) (w' : World) : Prop := ∃ S', DW w' S' L x ∧ Nx w S w' S'
theorem dup2 (L : LocR) (x : Bm) (m : Pc.M2) : updR (docRs L x) 2 (picX L.P m) = docRs L { x with p := m } := by
 funext j
 match j with
 | 0 | 1 | 2 | 3 | 4 | 5 | 6 => rfl
 | n + 7 => rfl
theorem dup3 (L : LocR) (x : Bm) (m : Nat → Pt.Cn) : updR (docRs L x) 3 (pitX L.T m) = docRs L { x with f := m } := by
 funext j
 match j with
 | 0 | 1 | 2 | 3 | 4 | 5 | 6 => rfl
 | n + 7 => rfl
theorem dup4 (L : LocR) (x : Bm) (m : Ut.U) : updR (docRs L x) 4 (uartX L.U m) = docRs L { x with u := m } := by
 funext j
 match j with
 | 0 | 1 | 2 | 3 | 4 | 5 | 6 => rfl
 | n + 7 => rfl
theorem dup5 (L : LocR) (x : Bm) (m : Dk.Id) : updR (docRs L x) 5 (ideX L.I L.gD L.cap m) = docRs L { x with d := m } := by
 funext j
 match j with
 | 0 | 1 | 2 | 3 | 4 | 5 | 6 => rfl
 | n + 7 => rfl
theorem dup0 (L : LocR) (x : Bm) (now : Int) : updR (docRs L x) 0 (.blk L.B (docO L now)) = docRs L { x with now := now } := by
 funext j
 match j with
 | 0 | 1 | 2 | 3 | 4 | 5 | 6 => rfl
 | n + 7 => rfl
theorem dup6 (L : LocR) (x : Bm) (cl : Bool) (m : Rm.Mem) : updR (docRs L x) 6 (.blk L.M (refO L cl)) = docRs L { x with cl := cl, m := m } := by
 funext j
 match j with
 | 0 | 1 | 2 | 3 | 4 | 5 | 6 => rfl
 | n + 7 => rfl
section
variable {w : World} {S : Nat → Prop} {L : LocR} {x : Bm}
theorem DW.blk (h : DW w S L x) : w.heap[L.B]? = some (docO L x.now) := by
 obtain ⟨T, a, b⟩ := h.at 0
 exact a.2
theorem DW.mem (h : DW w S L x) : w.heap[L.M]? = some (refO L x.cl) := by
 obtain ⟨T, a, b⟩ := h.at 6
 exact a.2
theorem DW.cell (h : DW w S L x) {k : Nat} {v : Value} (e : (docC L x.now)[k]? = some v) : w.cell? ⟨L.B, k, none⟩ = some v := by
 simp [World.cell?, h.blk, docO, e]
theorem DW.c0 (h : DW w S L x) : w.cell? ⟨L.B, 0, none⟩ = some (.pointer (some ⟨L.M, 0, none⟩)) := h.cell rfl
theorem DW.c1 (h : DW w S L x) : w.cell? ⟨L.B, 1, none⟩ = some (.pointer (some ⟨L.P, 0, none⟩)) := h.cell rfl
theorem DW.c2 (h : DW w S L x) : w.cell? ⟨L.B, 2, none⟩ = some (.pointer (some ⟨L.T, 0, none⟩)) := h.cell rfl
theorem DW.c3 (h : DW w S L x) : w.cell? ⟨L.B, 3, none⟩ = some (.pointer (some ⟨L.U, 0, none⟩)) := h.cell rfl
theorem DW.c4 (h : DW w S L x) : w.cell? ⟨L.B, 4, none⟩ = some (.pointer (some ⟨L.I, 0, none⟩)) := h.cell rfl
theorem DW.c5 (h : DW w S L x) : w.cell? ⟨L.B, 5, none⟩ = some (.int .u64 x.now) := h.cell rfl
theorem DW.fz (h : DW w S L x) (j : Nat) : w.frozen? ⟨L.B, j, none⟩ = false := by simp [World.frozen?, h.blk, docO]
theorem DW.m4 (h : DW w S L x) : w.cell? ⟨L.M, 4, none⟩ = some (.bool x.cl) := by simp [World.cell?, h.mem, refO, refC]
theorem DW.mfz (h : DW w S L x) (j : Nat) : w.frozen? ⟨L.M, j, none⟩ = false := by simp [World.frozen?, h.mem, refO]
theorem DW.drew (h : DW w S L x) : DW w.drew S L x := Sys.drew h
theorem DW.keep {w' : World} (h : DW w S L x) (k : Kp noB w w') : DW w' S L x := Sys.keep h k
theorem DNx.refl (h : DW w S L x) : DNx w S L x w := ⟨S, h, Nx.refl _ _⟩
theorem DNx.keep {w' : World} (h : DW w S L x) (k : Kp noB w w') : DNx w S L x w' := ⟨S, h.keep k, Nx.keep k⟩
theorem DW.lt (h : DW w S L x) : DW w (fun k => S k ∧ k < w.heap.size) L x := Sys.lt h
theorem DNx.trans {w1 w2 : World} {S1 : Nat → Prop} (n : Nx w S w1 S1) (h : DNx w1 S1 L x w2) : DNx w S L x w2 := by
 obtain ⟨S2, a, b⟩ := h
 exact ⟨S2, a, n.trans b⟩
theorem dPic {f : FuncId} {args : Array Value} {E : Ending → Prop} {m : Pc.M2} (h : DW w S L x) (hc : ∀ T, Pc.RWS w T L.P x.p → Calls Tryz.prog f args w fun e w' => E e ∧ Pc.RWS w' (Pc.nS T w w') L.P m ∧ Pc.Kp (Pc.isB L.P) w w') : Calls Tryz.prog f args w fun e w' => E e ∧ DNx w S L { x with p := m } w' := by
 unfold DNx DW
 rw [← dup2]
 refine Sys.call h 2 _ fun T a b => (hc T a.2).mono fun e w' ⟨q, p1, k⟩ => ⟨q, Pc.nS T w w', ⟨⟨Nat.lt_of_lt_of_le (b _ a.1) k.size, .inl a.1⟩, p1⟩, ⟨fun _ f => f.2, (kPc k).mono fun j _ (g : j = L.P) => g ▸ a.1⟩, fun j g => g.1⟩
theorem dPicK {f : FuncId} {args : Array Value} {E : Ending → Prop} (h : DW w S L x) (hc : ∀ T, Pc.RWS w T L.P x.p → Calls Tryz.prog f args w fun e w' => E e ∧ Pc.Kp Pc.noB w w') : Calls Tryz.prog f args w fun e w' => E e ∧ DNx w S L x w' := by
 obtain ⟨T, a, b⟩ := Sys.at h 2
 exact (hc T a.2).mono fun e w' ⟨q, k⟩ => ⟨q, .keep h (kPc k)⟩
theorem dPit {f : FuncId} {args : Array Value} {E : Ending → Prop} {m : Nat → Pt.Cn} (h : DW w S L x) (hc : Pt.RW w L.T x.f → Calls Tryz.prog f args w fun e w' => E e ∧ Pt.RW w' L.T m ∧ Pt.Kp (Pt.isB L.T) w w') : Calls Tryz.prog f args w fun e w' => E e ∧ DNx w S L { x with f := m } w' := by
 unfold DNx DW
 rw [← dup3]
 refine Sys.call h 3 _ fun T a b => (hc a.2).mono fun e w' ⟨q, p1, k⟩ => ⟨q, T, ⟨a.1, p1⟩, ⟨fun _ f => .inl f, (kPt k).mono fun j _ (g : j = L.T) => g ▸ a.1⟩, fun j g => Nat.lt_of_lt_of_le (b j g) k.size⟩
theorem dPitK {f : FuncId} {args : Array Value} {E : Ending → Prop} (h : DW w S L x) (hc : Pt.RW w L.T x.f → Calls Tryz.prog f args w fun e w' => E e ∧ Pt.Kp Pt.noB w w') : Calls Tryz.prog f args w fun e w' => E e ∧ DNx w S L x w' := by
 obtain ⟨T, a, b⟩ := Sys.at h 3
 exact (hc a.2).mono fun e w' ⟨q, k⟩ => ⟨q, .keep h (kPt k)⟩
theorem dUart {f : FuncId} {args : Array Value} {E : Ending → Prop} {m : Ut.U} (h : DW w S L x) (hc : ∀ T, Ut.RW w T L.U x.u → Calls Tryz.prog f args w fun e w' => E e ∧ Ut.RNx w T L.U m w') : Calls Tryz.prog f args w fun e w' => E e ∧ DNx w S L { x with u := m } w' := by
 unfold DNx DW
 rw [← dup4]
 exact Sys.call h 4 _ fun T a b => (hc T a).mono fun e w' ⟨q, T', p1, k⟩ => ⟨q, T', p1, ⟨k.sub, k.kp⟩, p1.lt⟩
theorem dIde {f : FuncId} {args : Array Value} {E : Ending → Prop} {m : Dk.Id} (h : DW w S L x) (hc : ∀ T, Dk.XW w T L.I L.gD L.cap x.d → Calls Tryz.prog f args w fun e w' => E e ∧ Dk.XNx w T L.I L.gD L.cap m w') : Calls Tryz.prog f args w fun e w' => E e ∧ DNx w S L { x with d := m } w' := by
 unfold DNx DW
 rw [← dup5]
 exact Sys.call h 5 _ fun T a b => (hc T a).mono fun e w' ⟨q, T', p1, k⟩ => ⟨q, T', p1, ⟨k.sub, kDk k.kp⟩, p1.lt⟩
theorem dTime (h : DW w S L x) (t : Int) : DNx w S L { x with now := t } (w.setCell ⟨L.B, 5, none⟩ (.int .u64 t)) := by
 unfold DNx DW
 rw [← dup0]
 refine Sys.set h (i := 0) rfl (kpB L.B w 5 _) ?_
 rw [heap_set h.blk]
 rfl
theorem dGate (h : DW w S L x) (cl : Bool) (m : Rm.Mem) : DNx w S L { x with cl := cl, m := m } (w.setCell ⟨L.M, 4, none⟩ (.bool cl)) := by
 unfold DNx DW
 rw [← dup6]
 refine Sys.set h (i := 6) rfl (kpB L.M w 4 _) ?_
 rw [heap_set h.mem]
 rfl
end
theorem BNx.trans {w w1 w2 : World} {S : Nat → Prop} {L : Loc} {x : Bm} {S1 : Nat → Prop} (n : Nx w S w1 S1) (h : BNx w1 S1 L x w2) : BNx w S L x w2 := by
 obtain ⟨S2, a, b⟩ := h
 exact ⟨S2, a, n.trans b⟩
set_option maxHeartbeats 1000000 in
theorem tell_ok {w : World} {S : Nat → Prop} {L : Loc} {x : Bm} (h : BW w S L x) (k : x.Ok) : Calls Tryz.prog 29 #[.pointer (some ⟨L.B, 0, none⟩)] w fun e w' => e = .returned (.tuple #[]) ∧ BNx w S L x.tell w' := by
 obtain ⟨l0, e0⟩ : ∃ l, l = (x.f 0).line x.now := ⟨_, rfl⟩
 obtain ⟨l1, e1⟩ : ∃ l, l = x.u.ln := ⟨_, rfl⟩
 obtain ⟨l2, e2⟩ : ∃ l, l = x.d.line := ⟨_, rfl⟩
 have k0 := k.p
 have k1 := k0.line (n := 0) (by decide) (by decide) l0
 have k2 := k1.line (n := 4) (by decide) (by decide) l1
 have HA : Hid (∀ W S, BW W S L x → Calls Tryz.prog 71 #[.pointer (some ⟨L.T, 0, none⟩), .int .u64 x.now] W fun e w' => e = .returned (.bool l0) ∧ BNx W S L x w') := fun W S h => by rw [e0]; exact bPitK h (fun a => Pt.line_any a k.f x.now)
 have HB : Hid (∀ W S, BW W S L x → Calls Tryz.prog 70 #[.pointer (some ⟨L.P, 0, none⟩), .int .i64 0, .bool l0] W fun e w' => e = .returned (.int .i64 0) ∧ BNx W S L { x with p := x.p.line 0 l0 } w') := fun W S h => bPic h (fun a => Pc.line_ok W L.P x.p a k0 0 l0 (by decide) (by decide))
 have HC : Hid (∀ W S, BW W S L { x with p := x.p.line 0 l0 } → Calls Tryz.prog 72 #[.pointer (some ⟨L.U, 0, none⟩)] W fun e w' => e = .returned (.bool l1) ∧ BNx W S L { x with p := x.p.line 0 l0 } w') := fun W S h => by rw [e1]; exact bUart (m := x.u) h (fun T a => (Ut.wLine a k.u).mono fun e w' ⟨q, r⟩ => ⟨q, .same a r⟩)
 have HD : Hid (∀ W S, BW W S L { x with p := x.p.line 0 l0 } → Calls Tryz.prog 70 #[.pointer (some ⟨L.P, 0, none⟩), .int .i64 4, .bool l1] W fun e w' => e = .returned (.int .i64 0) ∧ BNx W S L { x with p := (x.p.line 0 l0).line 4 l1 } w') := fun W S h => bPic (x := { x with p := x.p.line 0 l0 }) h (fun a => Pc.line_ok W L.P _ a k1 4 l1 (by decide) (by decide))
 have HE : Hid (∀ W S, BW W S L { x with p := (x.p.line 0 l0).line 4 l1 } → Calls Tryz.prog 73 #[.pointer (some ⟨L.I, 0, none⟩)] W fun e w' => e = .returned (.bool l2) ∧ BNx W S L { x with p := (x.p.line 0 l0).line 4 l1 } w') := fun W S h => by rw [e2]; exact bIde (m := x.d) h (fun T a => (Dk.wLine a k.d).mono fun e w' ⟨q, r⟩ => ⟨q, .same a r⟩)
 have HF : Hid (∀ W S, BW W S L { x with p := (x.p.line 0 l0).line 4 l1 } → Calls Tryz.prog 70 #[.pointer (some ⟨L.P, 0, none⟩), .int .i64 14, .bool l2] W fun e w' => e = .returned (.int .i64 0) ∧ BNx W S L { x with p := ((x.p.line 0 l0).line 4 l1).line 14 l2 } w') := fun W S h => bPic (x := { x with p := (x.p.line 0 l0).line 4 l1 }) h (fun a => Pc.line_ok W L.P _ a k2 14 l2 (by decide) (by decide))
 have CX : Hid (∀ W S m, BW W S L { x with p := m } → W.cell? ⟨L.B, 0, none⟩ = some (.pointer (some ⟨L.P, 0, none⟩)) ∧ W.cell? ⟨L.B, 1, none⟩ = some (.pointer (some ⟨L.T, 0, none⟩)) ∧ W.cell? ⟨L.B, 2, none⟩ = some (.pointer (some ⟨L.U, 0, none⟩)) ∧ W.cell? ⟨L.B, 3, none⟩ = some (.pointer (some ⟨L.I, 0, none⟩)) ∧ W.cell? ⟨L.B, 6, none⟩ = some (.int .u64 x.now)) := fun W S m h => ⟨h.c0, h.c1, h.c2, h.c3, h.c6⟩
 have ET : Hid (x.tell = { x with p := ((x.p.line 0 l0).line 4 l1).line 14 l2 }) := by show _ = _; rw [e0, e1, e2]; rfl
 have P0 : Hid (BW w.drew S L x) := h.drew
 have N0 : Hid (Nx w S w.drew S) := Nx.keep (Kp.refl _ _).drew
 generalize x.p.line 0 l0 = m1 at *
 generalize m1.line 4 l1 = m2 at *
 generalize m2.line 14 l2 = m3 at *
 clear h k k0 k1 k2 e0 e1 e2
 obtain ⟨c0, c1, c2, c3, c6⟩ := CX.out _ _ _ P0.out
 have S0 : Hid (w.drew.cell? ⟨L.B, 0, none⟩ = some (.pointer (some ⟨L.P, 0, none⟩)) ∧ w.drew.cell? ⟨L.B, 1, none⟩ = some (.pointer (some ⟨L.T, 0, none⟩)) ∧ w.drew.cell? ⟨L.B, 6, none⟩ = some (.int .u64 x.now)) := ⟨c0, c1, c6⟩
 have CA : Hid (∀ W S m, BW W S L { x with p := m } → W.cell? ⟨L.B, 0, none⟩ = some (.pointer (some ⟨L.P, 0, none⟩)) ∧ W.cell? ⟨L.B, 1, none⟩ = some (.pointer (some ⟨L.T, 0, none⟩)) ∧ W.cell? ⟨L.B, 6, none⟩ = some (.int .u64 x.now)) := fun W S m h => ⟨h.c0, h.c1, h.c6⟩
 have CB : Hid (∀ W S m, BW W S L { x with p := m } → W.cell? ⟨L.B, 0, none⟩ = some (.pointer (some ⟨L.P, 0, none⟩)) ∧ W.cell? ⟨L.B, 2, none⟩ = some (.pointer (some ⟨L.U, 0, none⟩))) := fun W S m h => ⟨h.c0, h.c2⟩
 have CC : Hid (∀ W S m, BW W S L { x with p := m } → W.cell? ⟨L.B, 0, none⟩ = some (.pointer (some ⟨L.P, 0, none⟩)) ∧ W.cell? ⟨L.B, 3, none⟩ = some (.pointer (some ⟨L.I, 0, none⟩))) := fun W S m h => ⟨h.c0, h.c3⟩
 clear c0 c1 c2 c3 c6 CX
 go_enter Tryz.func29, Tryz.ntmps29
 go_wp2
 go_region_held3 (fun W => W.cell? ⟨L.B, 0, none⟩ = some (.pointer (some ⟨L.P, 0, none⟩)) ∧ W.cell? ⟨L.B, 1, none⟩ = some (.pointer (some ⟨L.T, 0, none⟩)) ∧ W.cell? ⟨L.B, 6, none⟩ = some (.int .u64 x.now))
  (first | exact S0.out | exact CA.out _ _ _ (by assumption) | assumption)
  (first
   | (go_at_call 71; refine Calls.mono (HA.out _ _ P0.out) ?_; rintro e z1 ⟨rfl, S1, p1, n1⟩)
   | (go_at_call 70; refine Calls.mono (HB.out _ _ p1) ?_; rintro e z2 ⟨rfl, S2, p2, n2⟩))
 have N2 : Hid (Nx w S z2 S2) := (N0.out.trans n1).trans n2
 have P2 : Hid (BW z2.drew S2 L { x with p := m1 }) := p2.drew
 have T2 : Hid (Nx w S z2.drew S2) := N2.out.trans (Nx.keep (Kp.refl _ _).drew)
 have S2' : Hid _ := CB.out _ _ _ P2.out
 clear p1 p2 n1 n2 N2 P0 N0 S0 HA HB CA
 go_wp2
 go_region_held3 (fun W => W.cell? ⟨L.B, 0, none⟩ = some (.pointer (some ⟨L.P, 0, none⟩)) ∧ W.cell? ⟨L.B, 2, none⟩ = some (.pointer (some ⟨L.U, 0, none⟩)))
  (first | exact S2'.out | exact CB.out _ _ _ (by assumption) | assumption)
  (first
   | (go_at_call 72; refine Calls.mono (HC.out _ _ P2.out) ?_; rintro e z3 ⟨rfl, S3, p3, n3⟩)
   | (go_at_call 70; refine Calls.mono (HD.out _ _ p3) ?_; rintro e z4 ⟨rfl, S4, p4, n4⟩))
 have P4 : Hid (BW z4.drew S4 L { x with p := m2 }) := p4.drew
 have T4 : Hid (Nx w S z4.drew S4) := ((T2.out.trans n3).trans n4).trans (Nx.keep (Kp.refl _ _).drew)
 have S4' : Hid _ := CC.out _ _ _ P4.out
 clear p3 p4 n3 n4 T2 P2 S2' HC HD CB
 go_wp2
 go_region_held3 (fun W => W.cell? ⟨L.B, 0, none⟩ = some (.pointer (some ⟨L.P, 0, none⟩)) ∧ W.cell? ⟨L.B, 3, none⟩ = some (.pointer (some ⟨L.I, 0, none⟩)))
  (first | exact S4'.out | exact CC.out _ _ _ (by assumption) | assumption)
  (first
   | (go_at_call 73; refine Calls.mono (HE.out _ _ P4.out) ?_; rintro e z5 ⟨rfl, S5, p5, n5⟩)
   | (go_at_call 70; refine Calls.mono (HF.out _ _ p5) ?_; rintro e z6 ⟨rfl, S6, p6, n6⟩))
 have HZ : Hid (BNx w S L x.tell z6) := by
  show BNx w S L x.tell z6
  rw [ET.out]
  exact ⟨S6, p6, (T4.out.trans n5).trans n6⟩
 clear p5 p6 n5 n6 T4 P4 S4' HE HF CC ET
 go_wp2
 go_end0
 exact ⟨rfl, HZ.out⟩
set_option maxHeartbeats 1000000 in
theorem lines_ok {w : World} {S : Nat → Prop} {L : LocR} {x : Bm} (h : DW w S L x) (k : x.Ok) : Calls Tryz.prog 34 #[.pointer (some ⟨L.B, 0, none⟩)] w fun e w' => e = .returned (.tuple #[]) ∧ DNx w S L x.tell w' := by
 obtain ⟨l0, e0⟩ : ∃ l, l = (x.f 0).line x.now := ⟨_, rfl⟩
 obtain ⟨l1, e1⟩ : ∃ l, l = x.u.ln := ⟨_, rfl⟩
 obtain ⟨l2, e2⟩ : ∃ l, l = x.d.line := ⟨_, rfl⟩
 have k0 := k.p
 have k1 := k0.line (n := 0) (by decide) (by decide) l0
 have k2 := k1.line (n := 4) (by decide) (by decide) l1
 have HA : Hid (∀ W S, DW W S L x → Calls Tryz.prog 76 #[.pointer (some ⟨L.T, 0, none⟩), .int .u64 x.now] W fun e w' => e = .returned (.bool l0) ∧ DNx W S L x w') := fun W S h => by rw [e0]; exact dPitK h (fun a => Pt.xLine W L.T x.f a x.now)
 have HB : Hid (∀ W S, DW W S L x → Calls Tryz.prog 75 #[.pointer (some ⟨L.P, 0, none⟩), .int .i64 0, .bool l0] W fun e w' => e = .returned (.int .i64 0) ∧ DNx W S L { x with p := x.p.line 0 l0 } w') := fun W S h => dPic h (fun T a => Pc.sLine W L.P _ T a 0 l0 (by decide) (by decide))
 have HC : Hid (∀ W S, DW W S L { x with p := x.p.line 0 l0 } → Calls Tryz.prog 77 #[.pointer (some ⟨L.U, 0, none⟩)] W fun e w' => e = .returned (.bool l1) ∧ DNx W S L { x with p := x.p.line 0 l0 } w') := fun W S h => by rw [e1]; exact dUart (m := x.u) h (fun T a => (Ut.xLine a k.u).mono fun e w' ⟨q, r⟩ => ⟨q, .same a r⟩)
 have HD : Hid (∀ W S, DW W S L { x with p := x.p.line 0 l0 } → Calls Tryz.prog 75 #[.pointer (some ⟨L.P, 0, none⟩), .int .i64 4, .bool l1] W fun e w' => e = .returned (.int .i64 0) ∧ DNx W S L { x with p := (x.p.line 0 l0).line 4 l1 } w') := fun W S h => dPic (x := { x with p := x.p.line 0 l0 }) h (fun T a => Pc.sLine W L.P _ T a 4 l1 (by decide) (by decide))
 have HE : Hid (∀ W S, DW W S L { x with p := (x.p.line 0 l0).line 4 l1 } → Calls Tryz.prog 78 #[.pointer (some ⟨L.I, 0, none⟩)] W fun e w' => e = .returned (.bool l2) ∧ DNx W S L { x with p := (x.p.line 0 l0).line 4 l1 } w') := fun W S h => by rw [e2]; exact dIde (m := x.d) h (fun T a => (Dk.xLine a k.d).mono fun e w' ⟨q, r⟩ => ⟨q, .same a r⟩)
 have HF : Hid (∀ W S, DW W S L { x with p := (x.p.line 0 l0).line 4 l1 } → Calls Tryz.prog 75 #[.pointer (some ⟨L.P, 0, none⟩), .int .i64 14, .bool l2] W fun e w' => e = .returned (.int .i64 0) ∧ DNx W S L { x with p := ((x.p.line 0 l0).line 4 l1).line 14 l2 } w') := fun W S h => dPic (x := { x with p := (x.p.line 0 l0).line 4 l1 }) h (fun T a => Pc.sLine W L.P _ T a 14 l2 (by decide) (by decide))
 have CX : Hid (∀ W S m, DW W S L { x with p := m } → W.cell? ⟨L.B, 1, none⟩ = some (.pointer (some ⟨L.P, 0, none⟩)) ∧ W.cell? ⟨L.B, 2, none⟩ = some (.pointer (some ⟨L.T, 0, none⟩)) ∧ W.cell? ⟨L.B, 3, none⟩ = some (.pointer (some ⟨L.U, 0, none⟩)) ∧ W.cell? ⟨L.B, 4, none⟩ = some (.pointer (some ⟨L.I, 0, none⟩)) ∧ W.cell? ⟨L.B, 5, none⟩ = some (.int .u64 x.now)) := fun W S m h => ⟨h.c1, h.c2, h.c3, h.c4, h.c5⟩
 have ET : Hid (x.tell = { x with p := ((x.p.line 0 l0).line 4 l1).line 14 l2 }) := by show _ = _; rw [e0, e1, e2]; rfl
 have P0 : Hid (DW w.drew S L x) := h.drew
 have N0 : Hid (Nx w S w.drew S) := Nx.keep (Kp.refl _ _).drew
 generalize x.p.line 0 l0 = m1 at *
 generalize m1.line 4 l1 = m2 at *
 generalize m2.line 14 l2 = m3 at *
 clear h k k0 k1 k2 e0 e1 e2
 obtain ⟨c0, c1, c2, c3, c6⟩ := CX.out _ _ _ P0.out
 have S0 : Hid (w.drew.cell? ⟨L.B, 1, none⟩ = some (.pointer (some ⟨L.P, 0, none⟩)) ∧ w.drew.cell? ⟨L.B, 2, none⟩ = some (.pointer (some ⟨L.T, 0, none⟩)) ∧ w.drew.cell? ⟨L.B, 5, none⟩ = some (.int .u64 x.now)) := ⟨c0, c1, c6⟩
 have CA : Hid (∀ W S m, DW W S L { x with p := m } → W.cell? ⟨L.B, 1, none⟩ = some (.pointer (some ⟨L.P, 0, none⟩)) ∧ W.cell? ⟨L.B, 2, none⟩ = some (.pointer (some ⟨L.T, 0, none⟩)) ∧ W.cell? ⟨L.B, 5, none⟩ = some (.int .u64 x.now)) := fun W S m h => ⟨h.c1, h.c2, h.c5⟩
 have CB : Hid (∀ W S m, DW W S L { x with p := m } → W.cell? ⟨L.B, 1, none⟩ = some (.pointer (some ⟨L.P, 0, none⟩)) ∧ W.cell? ⟨L.B, 3, none⟩ = some (.pointer (some ⟨L.U, 0, none⟩))) := fun W S m h => ⟨h.c1, h.c3⟩
 have CC : Hid (∀ W S m, DW W S L { x with p := m } → W.cell? ⟨L.B, 1, none⟩ = some (.pointer (some ⟨L.P, 0, none⟩)) ∧ W.cell? ⟨L.B, 4, none⟩ = some (.pointer (some ⟨L.I, 0, none⟩))) := fun W S m h => ⟨h.c1, h.c4⟩
 clear c0 c1 c2 c3 c6 CX
 go_enter Tryz.func34, Tryz.ntmps34
 go_wp2
 go_region_held3 (fun W => W.cell? ⟨L.B, 1, none⟩ = some (.pointer (some ⟨L.P, 0, none⟩)) ∧ W.cell? ⟨L.B, 2, none⟩ = some (.pointer (some ⟨L.T, 0, none⟩)) ∧ W.cell? ⟨L.B, 5, none⟩ = some (.int .u64 x.now))
  (first | exact S0.out | exact CA.out _ _ _ (by assumption) | assumption)
  (first
   | (go_at_call 76; refine Calls.mono (HA.out _ _ P0.out) ?_; rintro e z1 ⟨rfl, S1, p1, n1⟩)
   | (go_at_call 75; refine Calls.mono (HB.out _ _ p1) ?_; rintro e z2 ⟨rfl, S2, p2, n2⟩))
 have N2 : Hid (Nx w S z2 S2) := (N0.out.trans n1).trans n2
 have P2 : Hid (DW z2.drew S2 L { x with p := m1 }) := p2.drew
 have T2 : Hid (Nx w S z2.drew S2) := N2.out.trans (Nx.keep (Kp.refl _ _).drew)
 have S2' : Hid _ := CB.out _ _ _ P2.out
 clear p1 p2 n1 n2 N2 P0 N0 S0 HA HB CA
 go_wp2
 go_region_held3 (fun W => W.cell? ⟨L.B, 1, none⟩ = some (.pointer (some ⟨L.P, 0, none⟩)) ∧ W.cell? ⟨L.B, 3, none⟩ = some (.pointer (some ⟨L.U, 0, none⟩)))
  (first | exact S2'.out | exact CB.out _ _ _ (by assumption) | assumption)
  (first
   | (go_at_call 77; refine Calls.mono (HC.out _ _ P2.out) ?_; rintro e z3 ⟨rfl, S3, p3, n3⟩)
   | (go_at_call 75; refine Calls.mono (HD.out _ _ p3) ?_; rintro e z4 ⟨rfl, S4, p4, n4⟩))
 have P4 : Hid (DW z4.drew S4 L { x with p := m2 }) := p4.drew
 have T4 : Hid (Nx w S z4.drew S4) := ((T2.out.trans n3).trans n4).trans (Nx.keep (Kp.refl _ _).drew)
 have S4' : Hid _ := CC.out _ _ _ P4.out
 clear p3 p4 n3 n4 T2 P2 S2' HC HD CB
 go_wp2
 go_region_held3 (fun W => W.cell? ⟨L.B, 1, none⟩ = some (.pointer (some ⟨L.P, 0, none⟩)) ∧ W.cell? ⟨L.B, 4, none⟩ = some (.pointer (some ⟨L.I, 0, none⟩)))
  (first | exact S4'.out | exact CC.out _ _ _ (by assumption) | assumption)
  (first
   | (go_at_call 78; refine Calls.mono (HE.out _ _ P4.out) ?_; rintro e z5 ⟨rfl, S5, p5, n5⟩)
   | (go_at_call 75; refine Calls.mono (HF.out _ _ p5) ?_; rintro e z6 ⟨rfl, S6, p6, n6⟩))
 have HZ : Hid (DNx w S L x.tell z6) := by
  show DNx w S L x.tell z6
  rw [ET.out]
  exact ⟨S6, p6, (T4.out.trans n5).trans n6⟩
 clear p5 p6 n5 n6 T4 P4 S4' HE HF CC ET
 go_wp2
 go_end0
 exact ⟨rfl, HZ.out⟩
theorem keyT : Tryz.prog.underlying 41 = some (.int .u16) := by kernel_rfl
theorem mapT : Tryz.prog.underlying 84 = some (.map 41 134) := by kernel_rfl
def getP : List (Int × (Dv × Int)) → Int → Option (Dv × Int)
 | [], _ => none
 | e :: es, p => if p = e.1 then some e.2 else getP es p
theorem same16 (p q : Int) : Instr.sameNow (.int .u16) (.int .u16 p) (.int .u16 q) = some (decide (p = q)) := by
 simp only [Instr.sameNow]
 simp
 rw [Bool.eq_iff_iff, beq_iff_eq, decide_eq_true_iff]
theorem find_es (L : Loc) (p : Int) : ∀ (l : List (Int × (Dv × Int))) (n i : Nat), ∃ r, Instr.findNow (.int .u16) (.int .u16 p) (esFrom L l n) i = some r ∧ r.map Prod.snd = (getP l p).map (portV L)
 | [], n, i => ⟨none, rfl, rfl⟩
 | e :: es, n, i => by
  obtain ⟨r, h1, h2⟩ := find_es L p es (n + 1) (i + 1)
  by_cases h : p = e.1
  ·refine ⟨some (i, portV L e.2), ?_, ?_⟩
   ·show (match Instr.sameNow (.int .u16) (.int .u16 p) (.int .u16 e.1) with | some true => some (some (i, portV L e.2)) | some false => Instr.findNow (.int .u16) (.int .u16 p) (esFrom L es (n + 1)) (i + 1) | none => none) = _
    rw [same16, decide_eq_true h]
   ·unfold getP
    rw [if_pos h]
    rfl
  ·refine ⟨r, ?_, ?_⟩
   ·show (match Instr.sameNow (.int .u16) (.int .u16 p) (.int .u16 e.1) with | some true => some (some (i, portV L e.2)) | some false => Instr.findNow (.int .u16) (.int .u16 p) (esFrom L es (n + 1)) (i + 1) | none => none) = _
    rw [same16, decide_eq_false h]
    exact h1
   ·unfold getP
    rw [if_neg h]
    exact h2
theorem getP_ports (p : Int) : getP ports p = portOf p := by
 unfold portOf
 by_cases h1 : p = 32 ∨ p = 33
 ·rw [if_pos h1]
  rcases h1 with rfl | rfl <;> rfl
 rw [if_neg h1]
 by_cases h2 : p = 160 ∨ p = 161
 ·rw [if_pos h2]
  rcases h2 with rfl | rfl <;> rfl
 rw [if_neg h2]
 by_cases h3 : 64 ≤ p ∧ p < 68
 ·rw [if_pos h3]
  have : p = 64 ∨ p = 65 ∨ p = 66 ∨ p = 67 := by omega
  rcases this with rfl | rfl | rfl | rfl <;> rfl
 rw [if_neg h3]
 by_cases h4 : 1016 ≤ p ∧ p < 1024
 ·rw [if_pos h4]
  have : p = 1016 ∨ p = 1017 ∨ p = 1018 ∨ p = 1019 ∨ p = 1020 ∨ p = 1021 ∨ p = 1022 ∨ p = 1023 := by omega
  rcases this with rfl | rfl | rfl | rfl | rfl | rfl | rfl | rfl <;> rfl
 rw [if_neg h4]
 by_cases h5 : 496 ≤ p ∧ p < 504
 ·rw [if_pos h5]
  have : p = 496 ∨ p = 497 ∨ p = 498 ∨ p = 499 ∨ p = 500 ∨ p = 501 ∨ p = 502 ∨ p = 503 := by omega
  rcases this with rfl | rfl | rfl | rfl | rfl | rfl | rfl | rfl <;> rfl
 rw [if_neg h5]
 by_cases h6 : p = 1014
 ·rw [if_pos h6]; subst h6; rfl
 rw [if_neg h6]
 by_cases h7 : p = 146
 ·rw [if_pos h7]; subst h7; rfl
 rw [if_neg h7]
 unfold ports
 simp only [getP]
 repeat rw [if_neg (by omega)]
def portRow (L : Loc) : Option (Dv × Int) → Value
 | some q => .tuple #[portV L q, .bool true]
 | none => .tuple #[.agg #[.int .i64 0, .nilFunc, .nilFunc], .bool false]
theorem look_any (b : Nat) (w : World) (es : Array MapEntry) (n : Nat) (hb : w.heap[b]? = some (.map es n)) (i : Int) (r : Option (Nat × Value)) (hf : Instr.findNow (.int .u16) (.int .u16 i) es.toList 0 = some r) :
  (Instr.lookup 84 (.map (some b)) (.int .u16 i) true).run Tryz.prog w = .ok (match r with | some (_, v) => .tuple #[v, .bool true] | none => .tuple #[.agg #[.int .i64 0, .nilFunc, .nilFunc], .bool false]) w := by
 have hc := MapKept.run_checkKey (P := Tryz.prog) (w := w) keyT (k := .int .u16 i) (by simp [MapKept.IsKey]) es.isEmpty 9999
 have hd := MapKept.run_findKey (P := Tryz.prog) (w := w) keyT hf
 cases r with
 | none => simp [Instr.lookup, run_underlying mapT, MapKept.run_getObj_map hb, hc, hd, Result.andThen]
 | some p => simp [Instr.lookup, run_underlying mapT, MapKept.run_getObj_map hb, hc, hd, Result.andThen]
theorem look_port {w : World} {L : Loc} (hb : w.heap[L.Q]? = some (mapO L ports)) (p : Int) : (Instr.lookup 84 (.map (some L.Q)) (.int .u16 p) true).run Tryz.prog w = .ok (portRow L (portOf p)) w := by
 obtain ⟨r, h1, h2⟩ := find_es L p ports 0 0
 rw [getP_ports] at h2
 rw [look_any L.Q w _ _ hb p r h1]
 cases r with
 | none =>
  cases hp : portOf p with
  | none => rfl
  | some q => rw [hp] at h2; cases h2
 | some y =>
  cases hp : portOf p with
  | none => rw [hp] at h2; cases h2
  | some q =>
   rw [hp] at h2
   injection h2 with h2
   show Result.ok (Value.tuple #[y.2, .bool true]) w = _
   rw [h2]
   rfl
theorem put_any (b : Nat) (w : World) (es : Array MapEntry) (n : Nat) (hb : w.heap[b]? = some (.map es n)) (i : Int) (v : Value) (hf : Instr.findNow (.int .u16) (.int .u16 i) es.toList 0 = some none) :
  (Instr.mapUpdate 84 (.map (some b)) (.int .u16 i) v).run Tryz.prog w = .ok () { w with heap := w.heap.setIfInBounds b (.map (es.push ⟨.int .u16 i, v, n⟩) (n + 1)) } := by
 have hc := MapKept.run_checkKey (P := Tryz.prog) (w := w) keyT (k := .int .u16 i) (by simp [MapKept.IsKey]) false 9999
 have hd := MapKept.run_findKey (P := Tryz.prog) (w := w) keyT hf
 have hs := MapKept.run_setObj_map (P := Tryz.prog) (.map (es.push ⟨.int .u16 i, v, n⟩) (n + 1)) hb
 simp [Instr.mapUpdate, run_underlying mapT, MapKept.run_getObj_map hb, hc, hd, hs, Result.andThen]
theorem es_snoc (L : Loc) (p : Int) (q : Dv × Int) : ∀ (l : List (Int × (Dv × Int))) (n : Nat), esFrom L (l ++ [(p, q)]) n = esFrom L l n ++ [⟨.int .u16 p, portV L q, n + l.length⟩]
 | [], n => rfl
 | e :: es, n => by
  show _ :: esFrom L (es ++ [(p, q)]) (n + 1) = _
  rw [es_snoc L p q es (n + 1), show n + 1 + es.length = n + (e :: es).length by simp; omega]
  rfl
theorem put_port {w : World} {L : Loc} {l : List (Int × (Dv × Int))} (hb : w.heap[L.Q]? = some (mapO L l)) (p : Int) (q : Dv × Int) (hn : getP l p = none) : ∃ w', (Instr.mapUpdate 84 (.map (some L.Q)) (.int .u16 p) (portV L q)).run Tryz.prog w = .ok () w' ∧ w'.heap[L.Q]? = some (mapO L (l ++ [(p, q)])) ∧ Kp (isB L.Q) w w' := by
 obtain ⟨r, h1, h2⟩ := find_es L p l 0 0
 rw [hn] at h2
 have hr : r = none := by cases r with | none => rfl | some y => cases h2
 subst hr
 unfold mapO at hb ⊢
 refine ⟨_, put_any L.Q w _ _ hb p (portV L q) h1, ?_, ?_⟩
 ·rw [(MapKept.heap_set hb).1, es_snoc]
  simp
 ·exact ⟨rfl, rfl, rfl, by simp, fun k hk hs => (MapKept.heap_set hb).2 k hs⟩
end Go.Proofs.YtonfjhbfkichkaaGreat.Bs
