/- The bus and its devices: BsRes, BsMath, BsBase, BrBase, BsTell, BrTell, BsMap, BsLay. -/
import Derived.Test.YtiagfmkinefidaaGreatEx18
import Derived.Test.YtiagfmkinefidaaGreatEx24
import Derived.Test.YtiagfmkinefidaaGreatEx25
import Derived.Test.YtiagfmkinefidaaGreatEx26
import Derived.Test.YtiagfmkinefidaaGreatEx03
import Derived.Test.YtiagfmkinefidaaGreatEx28
import Derived.Test.YtiagfmkinefidaaGreatEx29
import Derived.MapKept
namespace Go.Proofs.YtiagfmkinefidaaGreat.Bs
open Go.ChangeShapes Go.WideShapes Go.ChangeAt Go.RowKit
open Go.Proofs.YtiagfmkinefidaaGreat.Ut (Kp heap_lt heap_kept heap_set heap_new noB isB kpB)
set_option linter.unusedVariables false
set_option maxRecDepth 20000
/-- Something that a world holds in the blocks of S. -/
structure Res where
  R : World → (Nat → Prop) → Prop
  loc : ∀ {w w' : World} {S T : Nat → Prop}, R w S → Kp T w w' → (∀ k, S k → ¬ T k) → R w' S
/-- From S to S': nothing outside S was touched, what is new in S' was not there. -/
structure Nx (w : World) (S : Nat → Prop) (w' : World) (S' : Nat → Prop) : Prop where
  sub : ∀ k, S' k → S k ∨ w.heap.size ≤ k
  kp : Kp S w w'
theorem Nx.trans {a b c : World} {S T U : Nat → Prop} (h : Nx a S b T) (k : Nx b T c U) : Nx a S c U :=
  ⟨fun i g => by
    rcases k.sub i g with f | f
    · exact h.sub i f
    · exact .inr (Nat.le_trans h.kp.size f), h.kp.over k.kp (fun j hj g => by
    rcases h.sub j g with f | f
    · exact f
    · omega)⟩
theorem Nx.keep {w w' : World} {S : Nat → Prop} (k : Kp noB w w') : Nx w S w' S := ⟨fun _ f => .inl f, k.any⟩
def Res.none : Res := ⟨fun _ _ => True, fun _ _ _ => trivial⟩
/-- A block of one's own. -/
def Res.blk (B : Nat) (o : Obj) : Res := ⟨fun w S => S B ∧ w.heap[B]? = some o, fun h k d => ⟨h.1, heap_kept h.2 k (d _ h.1)⟩⟩
def Sys (w : World) (S : Nat → Prop) (Rs : Nat → Res) : Prop := ∃ own : Nat → Nat, ∀ i, ∃ T, (Rs i).R w T ∧ ∀ k, T k → own k = i ∧ S k ∧ k < w.heap.size
def updR (Rs : Nat → Res) (i : Nat) (r : Res) : Nat → Res := fun j => if j = i then r else Rs j
section
variable {w : World} {S : Nat → Prop} {Rs : Nat → Res}
theorem Sys.at (h : Sys w S Rs) (i : Nat) : ∃ T, (Rs i).R w T ∧ ∀ k, T k → S k ∧ k < w.heap.size := by
  obtain ⟨own, hs⟩ := h
  obtain ⟨T, a, b⟩ := hs i
  exact ⟨T, a, fun k g => (b k g).2⟩
theorem Sys.keep {w' : World} (h : Sys w S Rs) (k : Kp noB w w') : Sys w' S Rs := by
  obtain ⟨own, hs⟩ := h
  refine ⟨own, fun i => ?_⟩
  obtain ⟨T, a, b⟩ := hs i
  exact ⟨T, (Rs i).loc a k (fun _ _ => id), fun j g => ⟨(b j g).1, (b j g).2.1, Nat.lt_of_lt_of_le (b j g).2.2 k.size⟩⟩
theorem Sys.drew (h : Sys w S Rs) : Sys w.drew S Rs := h.keep (Kp.refl _ _).drew
/-- What one of them became in another world. -/
theorem Sys.fst (h : Sys w S Rs) (i : Nat) : ∃ T, (Rs i).R w T ∧ (∀ k, T k → S k ∧ k < w.heap.size) ∧ ∀ (r' : Res) (w' : World) (T' : Nat → Prop), r'.R w' T' → Nx w T w' T' → (∀ k, T' k → k < w'.heap.size) → ∃ S', Sys w' S' (updR Rs i r') ∧ Nx w S w' S' := by
  obtain ⟨own, hs⟩ := h
  obtain ⟨T, hT, hb⟩ := hs i
  refine ⟨T, hT, fun k g => (hb k g).2, fun r' w' T' b1 b2 b3 => ⟨fun k => k < w'.heap.size ∧ (S k ∨ w.heap.size ≤ k), ⟨fun k => if w.heap.size ≤ k then i else own k, fun j => ?_⟩, ⟨fun k hk => hk.2, b2.kp.mono (fun k _ g => (hb k g).2.1)⟩⟩⟩
  by_cases e : j = i
  · subst e
    refine ⟨T', by rw [updR, if_pos rfl]; exact b1, fun k g => ?_⟩
    rcases b2.sub k g with f | f
    · obtain ⟨c1, c2, c3⟩ := hb k f
      exact ⟨by dsimp only; rw [if_neg (by omega)]; exact c1, ⟨b3 k g, .inl c2⟩, b3 k g⟩
    · exact ⟨by dsimp only; rw [if_pos f], ⟨b3 k g, .inr f⟩, b3 k g⟩
  · obtain ⟨Tj, hj, hbj⟩ := hs j
    refine ⟨Tj, by rw [updR, if_neg e]; exact (Rs j).loc hj b2.kp (fun k g f => e ((hbj k g).1.symm.trans (hb k f).1)), fun k g => ?_⟩
    obtain ⟨c1, c2, c3⟩ := hbj k g
    have := b2.kp.size
    exact ⟨by dsimp only; rw [if_neg (by omega)]; exact c1, ⟨by omega, .inl c2⟩, by omega⟩
theorem Sys.loc {w' : World} {T : Nat → Prop} (h : Sys w S Rs) (k : Kp T w w') (hS : ∀ k, S k → ¬ T k) : Sys w' S Rs := by
  obtain ⟨own, hs⟩ := h
  refine ⟨own, fun i => ?_⟩
  obtain ⟨Ti, a, b⟩ := hs i
  exact ⟨Ti, (Rs i).loc a k (fun j g => hS j (b j g).2.1), fun j g => ⟨(b j g).1, (b j g).2.1, Nat.lt_of_lt_of_le (b j g).2.2 k.size⟩⟩
theorem Sys.call {P : Program} {f : FuncId} {args : Array Value} {E : Ending → Prop} (h : Sys w S Rs) (i : Nat) (r' : Res) (hc : ∀ T, (Rs i).R w T → (∀ k, T k → k < w.heap.size) → Calls P f args w fun e w' => E e ∧ ∃ T', r'.R w' T' ∧ Nx w T w' T' ∧ ∀ k, T' k → k < w'.heap.size) : Calls P f args w fun e w' => E e ∧ ∃ S', Sys w' S' (updR Rs i r') ∧ Nx w S w' S' := by
  obtain ⟨T, a, b, c⟩ := h.fst i
  exact (hc T a (fun k g => (b k g).2)).mono fun e w' ⟨q, T', b1, b2, b3⟩ => ⟨q, c r' w' T' b1 b2 b3⟩
/-- One of the cells of a block is another now. -/
theorem Sys.set (h : Sys w S Rs) {i B : Nat} {o o' : Obj} {w' : World} (hi : Rs i = Res.blk B o) (k : Kp (isB B) w w') (ho : w'.heap[B]? = some o') : ∃ S', Sys w' S' (updR Rs i (Res.blk B o')) ∧ Nx w S w' S' := by
  obtain ⟨T, a, b, c⟩ := h.fst i
  rw [hi] at a
  refine c _ w' T ⟨a.1, ho⟩ ⟨fun _ f => .inl f, k.mono (fun j _ (e : j = B) => e ▸ a.1)⟩ (fun j g => Nat.lt_of_lt_of_le (b j g).2 k.size)
/-- Something new. -/
theorem Sys.new (h : Sys w S Rs) {i : Nat} (hi : Rs i = Res.none) {r' : Res} {w' : World} {T' : Nat → Prop} (a : r'.R w' T') (n : ∀ k, T' k → w.heap.size ≤ k ∧ k < w'.heap.size) (k : Kp noB w w') : ∃ S', Sys w' S' (updR Rs i r') ∧ Nx w S w' S' := by
  obtain ⟨own, hs⟩ := h
  refine ⟨fun k => k < w'.heap.size ∧ (S k ∨ w.heap.size ≤ k), ⟨fun k => if w.heap.size ≤ k then i else own k, fun j => ?_⟩, ⟨fun k hk => hk.2, k.any⟩⟩
  by_cases e : j = i
  · subst e
    refine ⟨T', by rw [updR, if_pos rfl]; exact a, fun k g => ?_⟩
    obtain ⟨c1, c2⟩ := n k g
    exact ⟨by dsimp only; rw [if_pos c1], ⟨c2, .inr c1⟩, c2⟩
  · obtain ⟨Tj, hj, hbj⟩ := hs j
    refine ⟨Tj, by rw [updR, if_neg e]; exact (Rs j).loc hj k (fun _ _ => id), fun q g => ?_⟩
    obtain ⟨c1, c2, c3⟩ := hbj q g
    have := k.size
    exact ⟨by dsimp only; rw [if_neg (by omega)]; exact c1, ⟨by omega, .inl c2⟩, by omega⟩
theorem Sys.none (w : World) : Sys w noB (fun _ => Res.none) := ⟨fun _ => 0, fun i => ⟨noB, trivial, fun _ f => f.elim⟩⟩
theorem Sys.lt (h : Sys w S Rs) : Sys w (fun k => S k ∧ k < w.heap.size) Rs := by
  obtain ⟨own, hs⟩ := h
  refine ⟨own, fun i => ?_⟩
  obtain ⟨T, a, b⟩ := hs i
  exact ⟨T, a, fun k g => ⟨(b k g).1, ⟨(b k g).2.1, (b k g).2.2⟩, (b k g).2.2⟩⟩
/-- A part that leaves one of them and goes its own way. -/
theorem Sys.split (h : Sys w S Rs) (i j : Nat) (ij : i ≠ j) (hj : Rs j = Res.none) : ∃ T, (Rs i).R w T ∧ (∀ k, T k → S k ∧ k < w.heap.size) ∧ ∀ (r' q' : Res) (w' : World) (T' U' : Nat → Prop), r'.R w' T' → q'.R w' U' → Nx w T w' T' → (∀ k, T' k → k < w'.heap.size) → (∀ k, U' k → (T k ∨ w.heap.size ≤ k) ∧ k < w'.heap.size ∧ ¬ T' k) → ∃ S', Sys w' S' (updR (updR Rs i r') j q') ∧ Nx w S w' S' := by
  obtain ⟨own, hs⟩ := h
  obtain ⟨T, hT, hb⟩ := hs i
  refine ⟨T, hT, fun k g => (hb k g).2, fun r' q' w' T' U' b1 q1 b2 b3 u1 => ?_⟩
  classical
  refine ⟨fun k => k < w'.heap.size ∧ (S k ∨ w.heap.size ≤ k), ⟨fun k => if U' k then j else if w.heap.size ≤ k then i else own k, fun l => ?_⟩, ⟨fun k hk => hk.2, b2.kp.mono (fun k _ g => (hb k g).2.1)⟩⟩
  by_cases e : l = j
  · subst e
    refine ⟨U', by rw [updR, if_pos rfl]; exact q1, fun k g => ?_⟩
    obtain ⟨c1, c2, c3⟩ := u1 k g
    refine ⟨by dsimp only; rw [if_pos g], ⟨c2, ?_⟩, c2⟩
    rcases c1 with f | f
    · exact .inl (hb k f).2.1
    · exact .inr f
  · by_cases e' : l = i
    · subst e'
      refine ⟨T', by rw [updR, if_neg e, updR, if_pos rfl]; exact b1, fun k g => ?_⟩
      have nu : ¬ U' k := fun f => (u1 k f).2.2 g
      rcases b2.sub k g with f | f
      · obtain ⟨c1, c2, c3⟩ := hb k f
        exact ⟨by dsimp only; rw [if_neg nu, if_neg (by omega)]; exact c1, ⟨b3 k g, .inl c2⟩, b3 k g⟩
      · exact ⟨by dsimp only; rw [if_neg nu, if_pos f], ⟨b3 k g, .inr f⟩, b3 k g⟩
    · obtain ⟨Tl, hl, hbl⟩ := hs l
      refine ⟨Tl, by rw [updR, if_neg e, updR, if_neg e']; exact (Rs l).loc hl b2.kp (fun k g f => e' ((hbl k g).1.symm.trans (hb k f).1)), fun k g => ?_⟩
      obtain ⟨c1, c2, c3⟩ := hbl k g
      have := b2.kp.size
      have nu : ¬ U' k := fun f => by
        rcases (u1 k f).1 with x | x
        · exact e' (c1.symm.trans (hb k x).1)
        · omega
      exact ⟨by dsimp only; rw [if_neg nu, if_neg (by omega)]; exact c1, ⟨by omega, .inl c2⟩, by omega⟩
end
end Go.Proofs.YtiagfmkinefidaaGreat.Bs
namespace Go.Proofs.YtiagfmkinefidaaGreat.Bs
open Go.RowKit
set_option linter.unusedVariables false
set_option maxRecDepth 20000
structure Bm where
  p : Pc.M2
  f : Nat → Pt.Cn
  u : Ut.U
  d : Dk.Id
  m : Rm.Mem
  cl : Bool
  now : Int
/-- The lines are told. -/
def Bm.tell (x : Bm) : Bm := { x with p := ((x.p.line 0 ((x.f 0).line x.now)).line 4 x.u.ln).line 14 x.d.line }
inductive Dv where
  | pic
  | pit
  | uart
  | ide
  | gate
structure Bm.Ok (x : Bm) : Prop where
  p : x.p.Ok
  st : x.p.settle = x.p
  f : Pt.Oks x.f
  u : x.u.Ok
  d : x.d.Ok
  n0 : 0 ≤ x.now
  n1 : x.now < 18446744073709551616
end Go.Proofs.YtiagfmkinefidaaGreat.Bs
namespace Go.Proofs.YtiagfmkinefidaaGreat.Bs
open Go.ChangeShapes Go.WideShapes Go.ChangeAt Go.RowKit
open Go.Proofs.YtiagfmkinefidaaGreat.Ut (Kp heap_lt heap_kept heap_set heap_new noB isB kpB)
set_option linter.unusedVariables false
set_option maxRecDepth 20000
theorem kPc {S : Nat → Prop} {w w' : World} (h : Pc.Kp S w w') : Kp S w w' := ⟨h.os, h.tape, h.output, h.size, h.block⟩
theorem kPt {S : Nat → Prop} {w w' : World} (h : Pt.Kp S w w') : Kp S w w' := ⟨h.os, h.tape, h.output, h.size, h.block⟩
theorem kDk {S : Nat → Prop} {w w' : World} (h : Dk.Kp S w w') : Kp S w w' := ⟨h.os, h.tape, h.output, h.size, h.block⟩
theorem kRm {S : Nat → Prop} {w w' : World} (h : Rm.Kp S w w') : Kp S w w' := ⟨h.os, h.tape, h.output, h.size, h.block⟩
theorem pcK {S : Nat → Prop} {w w' : World} (h : Kp S w w') : Pc.Kp S w w' := ⟨h.os, h.tape, h.output, h.size, h.block⟩
theorem ptK {S : Nat → Prop} {w w' : World} (h : Kp S w w') : Pt.Kp S w w' := ⟨h.os, h.tape, h.output, h.size, h.block⟩
theorem dkK {S : Nat → Prop} {w w' : World} (h : Kp S w w') : Dk.Kp S w w' := ⟨h.os, h.tape, h.output, h.size, h.block⟩
theorem rmK {S : Nat → Prop} {w w' : World} (h : Kp S w w') : Rm.Kp S w w' := ⟨h.os, h.tape, h.output, h.size, h.block⟩
def picR (P : Nat) (m : Pc.M2) : Res := ⟨fun w S => S P ∧ Pc.PAt w P m, fun h k d => ⟨h.1, h.2.kept (pcK k) (d _ h.1)⟩⟩
def pitR (T : Nat) (f : Nat → Pt.Cn) : Res := ⟨fun w S => S T ∧ Pt.PAt w T f, fun h k d => ⟨h.1, h.2.kept (ptK k) (d _ h.1)⟩⟩
def uartR (U : Nat) (u : Ut.U) : Res := ⟨fun w S => Ut.UW w S U u, fun h k d => h.kept k d⟩
def ideR (I : Nat) (d : Dk.Id) : Res := ⟨fun w S => Dk.IW w S I d, fun h k e => h.kept (dkK k) e⟩
def ramR (M : Nat) (m : Rm.Mem) : Res := ⟨fun w S => Rm.RamAt w M m ∧ ∀ k, Rm.inRam M m.n k → S k, fun h k d => ⟨h.1.kp (rmK k) (fun j hj => d j (h.2 j hj)), h.2⟩⟩
/-- Where it all lies: the bus, its map of ports, the devices, the memory. -/
structure Loc where
  B : Nat
  Q : Nat
  P : Nat
  T : Nat
  U : Nat
  I : Nat
  M : Nat
def ptr (b : Nat) : Value := .pointer (some ⟨b, 0, none⟩)
def entV (at_ : Int) (o i : Nat) (b : Nat) : Value := .agg #[.int .i64 at_, .func (.func o) #[ptr b] #[], .func (.func i) #[ptr b] #[]]
def portV (L : Loc) : Dv × Int → Value
  | (.pic, a) => entV a 50 51 L.P
  | (.pit, a) => entV a 52 53 L.B
  | (.uart, a) => entV a 54 55 L.U
  | (.ide, a) => entV a 56 57 L.B
  | (.gate, a) => entV a 58 59 L.B
/-- All the ports, in the order in which they are laid. -/
def ports : List (Int × (Dv × Int)) :=
  [(32, (.pic, 0)), (33, (.pic, 1)), (160, (.pic, 2)), (161, (.pic, 3)), (64, (.pit, 0)), (65, (.pit, 1)), (66, (.pit, 2)), (67, (.pit, 3)),
   (1016, (.uart, 0)), (1017, (.uart, 1)), (1018, (.uart, 2)), (1019, (.uart, 3)), (1020, (.uart, 4)), (1021, (.uart, 5)), (1022, (.uart, 6)), (1023, (.uart, 7)),
   (496, (.ide, 0)), (497, (.ide, 1)), (498, (.ide, 2)), (499, (.ide, 3)), (500, (.ide, 4)), (501, (.ide, 5)), (502, (.ide, 6)), (503, (.ide, 7)), (1014, (.ide, 8)), (146, (.gate, 0))]
def esFrom (L : Loc) : List (Int × (Dv × Int)) → Nat → List MapEntry
  | [], _ => []
  | e :: es, n => ⟨.int .u16 e.1, portV L e.2, n⟩ :: esFrom L es (n + 1)
def mapO (L : Loc) (l : List (Int × (Dv × Int))) : Obj := .map (esFrom L l 0).toArray l.length
def busC (L : Loc) (cl : Bool) (now : Int) : Array Value := #[ptr L.P, ptr L.T, ptr L.U, ptr L.I, .pointer (some ⟨L.M + 3, 0, none⟩), .bool cl, .int .u64 now, .map (some L.Q)]
def busO (L : Loc) (cl : Bool) (now : Int) : Obj := .cells (busC L cl now) 106 (0, 0)
def busRs (L : Loc) (x : Bm) : Nat → Res
  | 0 => .blk L.B (busO L x.cl x.now)
  | 1 => .blk L.Q (mapO L ports)
  | 2 => picR L.P x.p
  | 3 => pitR L.T x.f
  | 4 => uartR L.U x.u
  | 5 => ideR L.I x.d
  | 6 => ramR L.M x.m
  | _ => .none
def BW (w : World) (S : Nat → Prop) (L : Loc) (x : Bm) : Prop := Sys w S (busRs L x)
def BNx (w : World) (S : Nat → Prop) (L : Loc) (x : Bm) (w' : World) : Prop := ∃ S', BW w' S' L x ∧ Nx w S w' S'
theorem up2 (L : Loc) (x : Bm) (m : Pc.M2) : updR (busRs L x) 2 (picR L.P m) = busRs L { x with p := m } := by
  funext j
  match j with
  | 0 | 1 | 2 | 3 | 4 | 5 | 6 => rfl
  | n + 7 => rfl
theorem up4 (L : Loc) (x : Bm) (m : Ut.U) : updR (busRs L x) 4 (uartR L.U m) = busRs L { x with u := m } := by
  funext j
  match j with
  | 0 | 1 | 2 | 3 | 4 | 5 | 6 => rfl
  | n + 7 => rfl
theorem up5 (L : Loc) (x : Bm) (m : Dk.Id) : updR (busRs L x) 5 (ideR L.I m) = busRs L { x with d := m } := by
  funext j
  match j with
  | 0 | 1 | 2 | 3 | 4 | 5 | 6 => rfl
  | n + 7 => rfl
theorem up6 (L : Loc) (x : Bm) (m : Rm.Mem) : updR (busRs L x) 6 (ramR L.M m) = busRs L { x with m := m } := by
  funext j
  match j with
  | 0 | 1 | 2 | 3 | 4 | 5 | 6 => rfl
  | n + 7 => rfl
section
variable {w : World} {S : Nat → Prop} {L : Loc} {x : Bm}
theorem BW.blk (h : BW w S L x) : w.heap[L.B]? = some (busO L x.cl x.now) := by
  obtain ⟨T, a, b⟩ := h.at 0
  exact a.2
theorem BW.cell (h : BW w S L x) {k : Nat} {v : Value} (e : (busC L x.cl x.now)[k]? = some v) : w.cell? ⟨L.B, k, none⟩ = some v := by
  simp [World.cell?, h.blk, busO, e]
theorem BW.c0 (h : BW w S L x) : w.cell? ⟨L.B, 0, none⟩ = some (.pointer (some ⟨L.P, 0, none⟩)) := h.cell rfl
theorem BW.c1 (h : BW w S L x) : w.cell? ⟨L.B, 1, none⟩ = some (.pointer (some ⟨L.T, 0, none⟩)) := h.cell rfl
theorem BW.c2 (h : BW w S L x) : w.cell? ⟨L.B, 2, none⟩ = some (.pointer (some ⟨L.U, 0, none⟩)) := h.cell rfl
theorem BW.c3 (h : BW w S L x) : w.cell? ⟨L.B, 3, none⟩ = some (.pointer (some ⟨L.I, 0, none⟩)) := h.cell rfl
theorem BW.c6 (h : BW w S L x) : w.cell? ⟨L.B, 6, none⟩ = some (.int .u64 x.now) := h.cell rfl
theorem BW.drew (h : BW w S L x) : BW w.drew S L x := Sys.drew h
theorem BW.keep {w' : World} (h : BW w S L x) (k : Kp noB w w') : BW w' S L x := Sys.keep h k
theorem BNx.keep {w' : World} (h : BW w S L x) (k : Kp noB w w') : BNx w S L x w' := ⟨S, h.keep k, Nx.keep k⟩
theorem bPic {f : FuncId} {args : Array Value} {E : Ending → Prop} {m : Pc.M2} (h : BW w S L x) (hc : Pc.PAt w L.P x.p → Calls Tryz.prog f args w fun e w' => E e ∧ Pc.PAt w' L.P m ∧ Pc.Kp (Pc.isB L.P) w w') : Calls Tryz.prog f args w fun e w' => E e ∧ BNx w S L { x with p := m } w' := by
  unfold BNx BW
  rw [← up2]
  refine Sys.call h 2 _ fun T a b => (hc a.2).mono fun e w' ⟨q, p1, k⟩ => ⟨q, T, ⟨a.1, p1⟩, ⟨fun _ f => .inl f, (kPc k).mono fun j _ (g : j = L.P) => g ▸ a.1⟩, fun j g => Nat.lt_of_lt_of_le (b j g) k.size⟩
theorem bPitK {f : FuncId} {args : Array Value} {E : Ending → Prop} (h : BW w S L x) (hc : Pt.PAt w L.T x.f → Calls Tryz.prog f args w fun e w' => E e ∧ Pt.Kp Pt.noB w w') : Calls Tryz.prog f args w fun e w' => E e ∧ BNx w S L x w' := by
  obtain ⟨T, a, b⟩ := Sys.at h 3
  exact (hc a.2).mono fun e w' ⟨q, k⟩ => ⟨q, .keep h (kPt k)⟩
theorem bUart {f : FuncId} {args : Array Value} {E : Ending → Prop} {m : Ut.U} (h : BW w S L x) (hc : ∀ T, Ut.UW w T L.U x.u → Calls Tryz.prog f args w fun e w' => E e ∧ Ut.UNx w T L.U m w') : Calls Tryz.prog f args w fun e w' => E e ∧ BNx w S L { x with u := m } w' := by
  unfold BNx BW
  rw [← up4]
  exact Sys.call h 4 _ fun T a b => (hc T a).mono fun e w' ⟨q, T', p1, k⟩ => ⟨q, T', p1, ⟨k.sub, k.kp⟩, p1.lt⟩
theorem bIde {f : FuncId} {args : Array Value} {E : Ending → Prop} {m : Dk.Id} (h : BW w S L x) (hc : ∀ T, Dk.IW w T L.I x.d → Calls Tryz.prog f args w fun e w' => E e ∧ Dk.INx w T L.I m w') : Calls Tryz.prog f args w fun e w' => E e ∧ BNx w S L { x with d := m } w' := by
  unfold BNx BW
  rw [← up5]
  exact Sys.call h 5 _ fun T a b => (hc T a).mono fun e w' ⟨q, T', p1, k⟩ => ⟨q, T', p1, ⟨k.sub, kDk k.kp⟩, p1.lt⟩
theorem bRam {f : FuncId} {args : Array Value} {E : Ending → Prop} {m : Rm.Mem} (h : BW w S L x) (hn : m.n = x.m.n) (hc : Rm.RamAt w L.M x.m → Calls Tryz.prog f args w fun e w' => E e ∧ Rm.RamAt w' L.M m ∧ Rm.Kp (Rm.inRam L.M x.m.n) w w') : Calls Tryz.prog f args w fun e w' => E e ∧ BNx w S L { x with m := m } w' := by
  unfold BNx BW
  rw [← up6]
  exact Sys.call h 6 _ fun T a b => (hc a.1).mono fun e w' ⟨q, p1, k⟩ => ⟨q, T, ⟨p1, fun j hj => a.2 j (hn ▸ hj)⟩, ⟨fun _ f => .inl f, (kRm k).mono fun j _ g => a.2 j g⟩, fun j g => Nat.lt_of_lt_of_le (b j g) k.size⟩
end
end Go.Proofs.YtiagfmkinefidaaGreat.Bs
namespace Go.Proofs.YtiagfmkinefidaaGreat.Bs
open Go.ChangeShapes Go.WideShapes Go.ChangeAt Go.RowKit
open Go.Proofs.YtiagfmkinefidaaGreat.Ut (Kp heap_lt heap_kept heap_set heap_new noB isB kpB)
set_option linter.unusedVariables false
set_option maxRecDepth 20000
structure LocR where
  B : Nat
  P : Nat
  T : Nat
  U : Nat
  I : Nat
  gD : Nat
  cap : Nat
  M : Nat
  V0 : Value
  V1 : Value
  V2 : Value
  V3 : Value
def picX (P : Nat) (m : Pc.M2) : Res := ⟨fun w S => S P ∧ Pc.RWS w S P m, fun h k d => ⟨h.1, h.2.kept h.1 (pcK k) d⟩⟩
def pitX (T : Nat) (f : Nat → Pt.Cn) : Res := ⟨fun w S => S T ∧ Pt.RW w T f, fun h k d => ⟨h.1, h.2.kept (ptK k) (d _ h.1)⟩⟩
def uartX (U : Nat) (u : Ut.U) : Res := ⟨fun w S => Ut.RW w S U u, fun h k d => h.kept k d⟩
def ideX (I gD cap : Nat) (d : Dk.Id) : Res := ⟨fun w S => Dk.XW w S I gD cap d, fun h k e => h.kept (dkK k) e⟩
def docC (L : LocR) (now : Int) : Array Value := #[ptr L.M, ptr L.P, ptr L.T, ptr L.U, ptr L.I, .int .u64 now]
def docO (L : LocR) (now : Int) : Obj := .cells (docC L now) 195 (0, 0)
def refC (L : LocR) (cl : Bool) : Array Value := #[L.V0, L.V1, L.V2, L.V3, .bool cl]
def refO (L : LocR) (cl : Bool) : Obj := .cells (refC L cl) 187 (0, 0)
def docRs (L : LocR) (x : Bm) : Nat → Res
  | 0 => .blk L.B (docO L x.now)
  | 1 => .none
  | 2 => picX L.P x.p
  | 3 => pitX L.T x.f
  | 4 => uartX L.U x.u
  | 5 => ideX L.I L.gD L.cap x.d
  | 6 => .blk L.M (refO L x.cl)
  | _ => .none
def DW (w : World) (S : Nat → Prop) (L : LocR) (x : Bm) : Prop := Sys w S (docRs L x)
def DNx (w : World) (S : Nat → Prop) (L : LocR) (x : Bm) (w' : World) : Prop := ∃ S', DW w' S' L x ∧ Nx w S w' S'
theorem dup2 (L : LocR) (x : Bm) (m : Pc.M2) : updR (docRs L x) 2 (picX L.P m) = docRs L { x with p := m } := by
  funext j
  match j with
  | 0 | 1 | 2 | 3 | 4 | 5 | 6 => rfl
  | n + 7 => rfl
theorem dup4 (L : LocR) (x : Bm) (m : Ut.U) : updR (docRs L x) 4 (uartX L.U m) = docRs L { x with u := m } := by
  funext j
  match j with
  | 0 | 1 | 2 | 3 | 4 | 5 | 6 => rfl
  | n + 7 => rfl
theorem dup5 (L : LocR) (x : Bm) (m : Dk.Id) : updR (docRs L x) 5 (ideX L.I L.gD L.cap m) = docRs L { x with d := m } := by
  funext j
  match j with
  | 0 | 1 | 2 | 3 | 4 | 5 | 6 => rfl
  | n + 7 => rfl
section
variable {w : World} {S : Nat → Prop} {L : LocR} {x : Bm}
theorem DW.blk (h : DW w S L x) : w.heap[L.B]? = some (docO L x.now) := by
  obtain ⟨T, a, b⟩ := h.at 0
  exact a.2
theorem DW.cell (h : DW w S L x) {k : Nat} {v : Value} (e : (docC L x.now)[k]? = some v) : w.cell? ⟨L.B, k, none⟩ = some v := by
  simp [World.cell?, h.blk, docO, e]
theorem DW.c1 (h : DW w S L x) : w.cell? ⟨L.B, 1, none⟩ = some (.pointer (some ⟨L.P, 0, none⟩)) := h.cell rfl
theorem DW.c2 (h : DW w S L x) : w.cell? ⟨L.B, 2, none⟩ = some (.pointer (some ⟨L.T, 0, none⟩)) := h.cell rfl
theorem DW.c3 (h : DW w S L x) : w.cell? ⟨L.B, 3, none⟩ = some (.pointer (some ⟨L.U, 0, none⟩)) := h.cell rfl
theorem DW.c4 (h : DW w S L x) : w.cell? ⟨L.B, 4, none⟩ = some (.pointer (some ⟨L.I, 0, none⟩)) := h.cell rfl
theorem DW.c5 (h : DW w S L x) : w.cell? ⟨L.B, 5, none⟩ = some (.int .u64 x.now) := h.cell rfl
theorem DW.drew (h : DW w S L x) : DW w.drew S L x := Sys.drew h
theorem DW.keep {w' : World} (h : DW w S L x) (k : Kp noB w w') : DW w' S L x := Sys.keep h k
theorem DNx.keep {w' : World} (h : DW w S L x) (k : Kp noB w w') : DNx w S L x w' := ⟨S, h.keep k, Nx.keep k⟩
theorem dPic {f : FuncId} {args : Array Value} {E : Ending → Prop} {m : Pc.M2} (h : DW w S L x) (hc : ∀ T, Pc.RWS w T L.P x.p → Calls Tryz.prog f args w fun e w' => E e ∧ Pc.RWS w' (Pc.nS T w w') L.P m ∧ Pc.Kp (Pc.isB L.P) w w') : Calls Tryz.prog f args w fun e w' => E e ∧ DNx w S L { x with p := m } w' := by
  unfold DNx DW
  rw [← dup2]
  refine Sys.call h 2 _ fun T a b => (hc T a.2).mono fun e w' ⟨q, p1, k⟩ => ⟨q, Pc.nS T w w', ⟨⟨Nat.lt_of_lt_of_le (b _ a.1) k.size, .inl a.1⟩, p1⟩, ⟨fun _ f => f.2, (kPc k).mono fun j _ (g : j = L.P) => g ▸ a.1⟩, fun j g => g.1⟩
theorem dPitK {f : FuncId} {args : Array Value} {E : Ending → Prop} (h : DW w S L x) (hc : Pt.RW w L.T x.f → Calls Tryz.prog f args w fun e w' => E e ∧ Pt.Kp Pt.noB w w') : Calls Tryz.prog f args w fun e w' => E e ∧ DNx w S L x w' := by
  obtain ⟨T, a, b⟩ := Sys.at h 3
  exact (hc a.2).mono fun e w' ⟨q, k⟩ => ⟨q, .keep h (kPt k)⟩
theorem dUart {f : FuncId} {args : Array Value} {E : Ending → Prop} {m : Ut.U} (h : DW w S L x) (hc : ∀ T, Ut.RW w T L.U x.u → Calls Tryz.prog f args w fun e w' => E e ∧ Ut.RNx w T L.U m w') : Calls Tryz.prog f args w fun e w' => E e ∧ DNx w S L { x with u := m } w' := by
  unfold DNx DW
  rw [← dup4]
  exact Sys.call h 4 _ fun T a b => (hc T a).mono fun e w' ⟨q, T', p1, k⟩ => ⟨q, T', p1, ⟨k.sub, k.kp⟩, p1.lt⟩
theorem dIde {f : FuncId} {args : Array Value} {E : Ending → Prop} {m : Dk.Id} (h : DW w S L x) (hc : ∀ T, Dk.XW w T L.I L.gD L.cap x.d → Calls Tryz.prog f args w fun e w' => E e ∧ Dk.XNx w T L.I L.gD L.cap m w') : Calls Tryz.prog f args w fun e w' => E e ∧ DNx w S L { x with d := m } w' := by
  unfold DNx DW
  rw [← dup5]
  exact Sys.call h 5 _ fun T a b => (hc T a).mono fun e w' ⟨q, T', p1, k⟩ => ⟨q, T', p1, ⟨k.sub, kDk k.kp⟩, p1.lt⟩
end
end Go.Proofs.YtiagfmkinefidaaGreat.Bs
namespace Go.Proofs.YtiagfmkinefidaaGreat.Bs
open Go.ChangeShapes Go.WideShapes Go.ChangeAt Go.RowKit
open Go.Proofs.YtiagfmkinefidaaGreat.Ut (Kp heap_lt heap_kept heap_set heap_new noB isB kpB)
set_option linter.unusedVariables false
set_option maxRecDepth 20000
set_option maxHeartbeats 1000000 in
theorem tell_ok {w : World} {S : Nat → Prop} {L : Loc} {x : Bm} (h : BW w S L x) (k : x.Ok) : Calls Tryz.prog 30 #[.pointer (some ⟨L.B, 0, none⟩)] w fun e w' => e = .returned (.tuple #[]) ∧ BNx w S L x.tell w' := by
  obtain ⟨l0, e0⟩ : ∃ l, l = (x.f 0).line x.now := ⟨_, rfl⟩
  obtain ⟨l1, e1⟩ : ∃ l, l = x.u.ln := ⟨_, rfl⟩
  obtain ⟨l2, e2⟩ : ∃ l, l = x.d.line := ⟨_, rfl⟩
  have k0 := k.p
  have k1 := k0.line (n := 0) (by decide) (by decide) l0
  have k2 := k1.line (n := 4) (by decide) (by decide) l1
  have HA : Hid (∀ W S, BW W S L x → Calls Tryz.prog 61 #[.pointer (some ⟨L.T, 0, none⟩), .int .u64 x.now] W fun e w' => e = .returned (.bool l0) ∧ BNx W S L x w') := fun W S h => by rw [e0]; exact bPitK h (fun a => Pt.line_any a k.f x.now)
  have HB : Hid (∀ W S, BW W S L x → Calls Tryz.prog 60 #[.pointer (some ⟨L.P, 0, none⟩), .int .i64 0, .bool l0] W fun e w' => e = .returned (.int .i64 0) ∧ BNx W S L { x with p := x.p.line 0 l0 } w') := fun W S h => bPic h (fun a => Pc.line_ok W L.P x.p a k0 0 l0 (by decide) (by decide))
  have HC : Hid (∀ W S, BW W S L { x with p := x.p.line 0 l0 } → Calls Tryz.prog 62 #[.pointer (some ⟨L.U, 0, none⟩)] W fun e w' => e = .returned (.bool l1) ∧ BNx W S L { x with p := x.p.line 0 l0 } w') := fun W S h => by rw [e1]; exact bUart (m := x.u) h (fun T a => (Ut.wLine a k.u).mono fun e w' ⟨q, r⟩ => ⟨q, .same a r⟩)
  have HD : Hid (∀ W S, BW W S L { x with p := x.p.line 0 l0 } → Calls Tryz.prog 60 #[.pointer (some ⟨L.P, 0, none⟩), .int .i64 4, .bool l1] W fun e w' => e = .returned (.int .i64 0) ∧ BNx W S L { x with p := (x.p.line 0 l0).line 4 l1 } w') := fun W S h => bPic (x := { x with p := x.p.line 0 l0 }) h (fun a => Pc.line_ok W L.P _ a k1 4 l1 (by decide) (by decide))
  have HE : Hid (∀ W S, BW W S L { x with p := (x.p.line 0 l0).line 4 l1 } → Calls Tryz.prog 63 #[.pointer (some ⟨L.I, 0, none⟩)] W fun e w' => e = .returned (.bool l2) ∧ BNx W S L { x with p := (x.p.line 0 l0).line 4 l1 } w') := fun W S h => by rw [e2]; exact bIde (m := x.d) h (fun T a => (Dk.wLine a k.d).mono fun e w' ⟨q, r⟩ => ⟨q, .same a r⟩)
  have HF : Hid (∀ W S, BW W S L { x with p := (x.p.line 0 l0).line 4 l1 } → Calls Tryz.prog 60 #[.pointer (some ⟨L.P, 0, none⟩), .int .i64 14, .bool l2] W fun e w' => e = .returned (.int .i64 0) ∧ BNx W S L { x with p := ((x.p.line 0 l0).line 4 l1).line 14 l2 } w') := fun W S h => bPic (x := { x with p := (x.p.line 0 l0).line 4 l1 }) h (fun a => Pc.line_ok W L.P _ a k2 14 l2 (by decide) (by decide))
  have CX : Hid (∀ W S m, BW W S L { x with p := m } → W.cell? ⟨L.B, 0, none⟩ = some (.pointer (some ⟨L.P, 0, none⟩)) ∧ W.cell? ⟨L.B, 1, none⟩ = some (.pointer (some ⟨L.T, 0, none⟩)) ∧ W.cell? ⟨L.B, 2, none⟩ = some (.pointer (some ⟨L.U, 0, none⟩)) ∧ W.cell? ⟨L.B, 3, none⟩ = some (.pointer (some ⟨L.I, 0, none⟩)) ∧ W.cell? ⟨L.B, 6, none⟩ = some (.int .u64 x.now)) := fun W S m h => ⟨h.c0, h.c1, h.c2, h.c3, h.c6⟩
  have ET : Hid (x.tell = { x with p := ((x.p.line 0 l0).line 4 l1).line 14 l2 }) := by show _ = _; rw [e0, e1, e2]; rfl
  have P0 : Hid (BW w.drew S L x) := h.drew
  have N0 : Hid (Nx w S w.drew S) := Nx.keep (Kp.refl _ _).drew
  generalize x.p.line 0 l0 = m1 at *
  generalize m1.line 4 l1 = m2 at *
  generalize m2.line 14 l2 = m3 at *
  clear h k k0 k1 k2 e0 e1 e2
  obtain ⟨c0, c1, c2, c3, c6⟩ := CX.out _ _ _ P0.out
  have S0 : Hid (w.drew.cell? ⟨L.B, 0, none⟩ = some (.pointer (some ⟨L.P, 0, none⟩)) ∧ w.drew.cell? ⟨L.B, 1, none⟩ = some (.pointer (some ⟨L.T, 0, none⟩)) ∧ w.drew.cell? ⟨L.B, 6, none⟩ = some (.int .u64 x.now)) := ⟨c0, c1, c6⟩
  have CA : Hid (∀ W S m, BW W S L { x with p := m } → W.cell? ⟨L.B, 0, none⟩ = some (.pointer (some ⟨L.P, 0, none⟩)) ∧ W.cell? ⟨L.B, 1, none⟩ = some (.pointer (some ⟨L.T, 0, none⟩)) ∧ W.cell? ⟨L.B, 6, none⟩ = some (.int .u64 x.now)) := fun W S m h => ⟨h.c0, h.c1, h.c6⟩
  have CB : Hid (∀ W S m, BW W S L { x with p := m } → W.cell? ⟨L.B, 0, none⟩ = some (.pointer (some ⟨L.P, 0, none⟩)) ∧ W.cell? ⟨L.B, 2, none⟩ = some (.pointer (some ⟨L.U, 0, none⟩))) := fun W S m h => ⟨h.c0, h.c2⟩
  have CC : Hid (∀ W S m, BW W S L { x with p := m } → W.cell? ⟨L.B, 0, none⟩ = some (.pointer (some ⟨L.P, 0, none⟩)) ∧ W.cell? ⟨L.B, 3, none⟩ = some (.pointer (some ⟨L.I, 0, none⟩))) := fun W S m h => ⟨h.c0, h.c3⟩
  clear c0 c1 c2 c3 c6 CX
  go_enter Tryz.func30, Tryz.ntmps30
  go_wp2
  go_region_held3 (fun W => W.cell? ⟨L.B, 0, none⟩ = some (.pointer (some ⟨L.P, 0, none⟩)) ∧ W.cell? ⟨L.B, 1, none⟩ = some (.pointer (some ⟨L.T, 0, none⟩)) ∧ W.cell? ⟨L.B, 6, none⟩ = some (.int .u64 x.now))
    (first | exact S0.out | exact CA.out _ _ _ (by assumption) | assumption)
    (first
      | (go_at_call 61; refine Calls.mono (HA.out _ _ P0.out) ?_; rintro e z1 ⟨rfl, S1, p1, n1⟩)
      | (go_at_call 60; refine Calls.mono (HB.out _ _ p1) ?_; rintro e z2 ⟨rfl, S2, p2, n2⟩))
  have N2 : Hid (Nx w S z2 S2) := (N0.out.trans n1).trans n2
  have P2 : Hid (BW z2.drew S2 L { x with p := m1 }) := p2.drew
  have T2 : Hid (Nx w S z2.drew S2) := N2.out.trans (Nx.keep (Kp.refl _ _).drew)
  have S2' : Hid _ := CB.out _ _ _ P2.out
  clear p1 p2 n1 n2 N2 P0 N0 S0 HA HB CA
  go_wp2
  go_region_held3 (fun W => W.cell? ⟨L.B, 0, none⟩ = some (.pointer (some ⟨L.P, 0, none⟩)) ∧ W.cell? ⟨L.B, 2, none⟩ = some (.pointer (some ⟨L.U, 0, none⟩)))
    (first | exact S2'.out | exact CB.out _ _ _ (by assumption) | assumption)
    (first
      | (go_at_call 62; refine Calls.mono (HC.out _ _ P2.out) ?_; rintro e z3 ⟨rfl, S3, p3, n3⟩)
      | (go_at_call 60; refine Calls.mono (HD.out _ _ p3) ?_; rintro e z4 ⟨rfl, S4, p4, n4⟩))
  have P4 : Hid (BW z4.drew S4 L { x with p := m2 }) := p4.drew
  have T4 : Hid (Nx w S z4.drew S4) := ((T2.out.trans n3).trans n4).trans (Nx.keep (Kp.refl _ _).drew)
  have S4' : Hid _ := CC.out _ _ _ P4.out
  clear p3 p4 n3 n4 T2 P2 S2' HC HD CB
  go_wp2
  go_region_held3 (fun W => W.cell? ⟨L.B, 0, none⟩ = some (.pointer (some ⟨L.P, 0, none⟩)) ∧ W.cell? ⟨L.B, 3, none⟩ = some (.pointer (some ⟨L.I, 0, none⟩)))
    (first | exact S4'.out | exact CC.out _ _ _ (by assumption) | assumption)
    (first
      | (go_at_call 63; refine Calls.mono (HE.out _ _ P4.out) ?_; rintro e z5 ⟨rfl, S5, p5, n5⟩)
      | (go_at_call 60; refine Calls.mono (HF.out _ _ p5) ?_; rintro e z6 ⟨rfl, S6, p6, n6⟩))
  have HZ : Hid (BNx w S L x.tell z6) := by
    show BNx w S L x.tell z6
    rw [ET.out]
    exact ⟨S6, p6, (T4.out.trans n5).trans n6⟩
  clear p5 p6 n5 n6 T4 P4 S4' HE HF CC ET
  go_wp2
  go_end0
  exact ⟨rfl, HZ.out⟩
end Go.Proofs.YtiagfmkinefidaaGreat.Bs
namespace Go.Proofs.YtiagfmkinefidaaGreat.Bs
open Go.ChangeShapes Go.WideShapes Go.ChangeAt Go.RowKit
open Go.Proofs.YtiagfmkinefidaaGreat.Ut (Kp heap_lt heap_kept heap_set heap_new noB isB kpB)
set_option linter.unusedVariables false
set_option maxRecDepth 20000
set_option maxHeartbeats 1000000 in
theorem lines_ok {w : World} {S : Nat → Prop} {L : LocR} {x : Bm} (h : DW w S L x) (k : x.Ok) : Calls Tryz.prog 85 #[.pointer (some ⟨L.B, 0, none⟩)] w fun e w' => e = .returned (.tuple #[]) ∧ DNx w S L x.tell w' := by
  obtain ⟨l0, e0⟩ : ∃ l, l = (x.f 0).line x.now := ⟨_, rfl⟩
  obtain ⟨l1, e1⟩ : ∃ l, l = x.u.ln := ⟨_, rfl⟩
  obtain ⟨l2, e2⟩ : ∃ l, l = x.d.line := ⟨_, rfl⟩
  have k0 := k.p
  have k1 := k0.line (n := 0) (by decide) (by decide) l0
  have k2 := k1.line (n := 4) (by decide) (by decide) l1
  have HA : Hid (∀ W S, DW W S L x → Calls Tryz.prog 130 #[.pointer (some ⟨L.T, 0, none⟩), .int .u64 x.now] W fun e w' => e = .returned (.bool l0) ∧ DNx W S L x w') := fun W S h => by rw [e0]; exact dPitK h (fun a => Pt.xLine W L.T x.f a x.now)
  have HB : Hid (∀ W S, DW W S L x → Calls Tryz.prog 129 #[.pointer (some ⟨L.P, 0, none⟩), .int .i64 0, .bool l0] W fun e w' => e = .returned (.int .i64 0) ∧ DNx W S L { x with p := x.p.line 0 l0 } w') := fun W S h => dPic h (fun T a => Pc.sLine W L.P _ T a 0 l0 (by decide) (by decide))
  have HC : Hid (∀ W S, DW W S L { x with p := x.p.line 0 l0 } → Calls Tryz.prog 131 #[.pointer (some ⟨L.U, 0, none⟩)] W fun e w' => e = .returned (.bool l1) ∧ DNx W S L { x with p := x.p.line 0 l0 } w') := fun W S h => by rw [e1]; exact dUart (m := x.u) h (fun T a => (Ut.xLine a k.u).mono fun e w' ⟨q, r⟩ => ⟨q, .same a r⟩)
  have HD : Hid (∀ W S, DW W S L { x with p := x.p.line 0 l0 } → Calls Tryz.prog 129 #[.pointer (some ⟨L.P, 0, none⟩), .int .i64 4, .bool l1] W fun e w' => e = .returned (.int .i64 0) ∧ DNx W S L { x with p := (x.p.line 0 l0).line 4 l1 } w') := fun W S h => dPic (x := { x with p := x.p.line 0 l0 }) h (fun T a => Pc.sLine W L.P _ T a 4 l1 (by decide) (by decide))
  have HE : Hid (∀ W S, DW W S L { x with p := (x.p.line 0 l0).line 4 l1 } → Calls Tryz.prog 132 #[.pointer (some ⟨L.I, 0, none⟩)] W fun e w' => e = .returned (.bool l2) ∧ DNx W S L { x with p := (x.p.line 0 l0).line 4 l1 } w') := fun W S h => by rw [e2]; exact dIde (m := x.d) h (fun T a => (Dk.xLine a k.d).mono fun e w' ⟨q, r⟩ => ⟨q, .same a r⟩)
  have HF : Hid (∀ W S, DW W S L { x with p := (x.p.line 0 l0).line 4 l1 } → Calls Tryz.prog 129 #[.pointer (some ⟨L.P, 0, none⟩), .int .i64 14, .bool l2] W fun e w' => e = .returned (.int .i64 0) ∧ DNx W S L { x with p := ((x.p.line 0 l0).line 4 l1).line 14 l2 } w') := fun W S h => dPic (x := { x with p := (x.p.line 0 l0).line 4 l1 }) h (fun T a => Pc.sLine W L.P _ T a 14 l2 (by decide) (by decide))
  have CX : Hid (∀ W S m, DW W S L { x with p := m } → W.cell? ⟨L.B, 1, none⟩ = some (.pointer (some ⟨L.P, 0, none⟩)) ∧ W.cell? ⟨L.B, 2, none⟩ = some (.pointer (some ⟨L.T, 0, none⟩)) ∧ W.cell? ⟨L.B, 3, none⟩ = some (.pointer (some ⟨L.U, 0, none⟩)) ∧ W.cell? ⟨L.B, 4, none⟩ = some (.pointer (some ⟨L.I, 0, none⟩)) ∧ W.cell? ⟨L.B, 5, none⟩ = some (.int .u64 x.now)) := fun W S m h => ⟨h.c1, h.c2, h.c3, h.c4, h.c5⟩
  have ET : Hid (x.tell = { x with p := ((x.p.line 0 l0).line 4 l1).line 14 l2 }) := by show _ = _; rw [e0, e1, e2]; rfl
  have P0 : Hid (DW w.drew S L x) := h.drew
  have N0 : Hid (Nx w S w.drew S) := Nx.keep (Kp.refl _ _).drew
  generalize x.p.line 0 l0 = m1 at *
  generalize m1.line 4 l1 = m2 at *
  generalize m2.line 14 l2 = m3 at *
  clear h k k0 k1 k2 e0 e1 e2
  obtain ⟨c0, c1, c2, c3, c6⟩ := CX.out _ _ _ P0.out
  have S0 : Hid (w.drew.cell? ⟨L.B, 1, none⟩ = some (.pointer (some ⟨L.P, 0, none⟩)) ∧ w.drew.cell? ⟨L.B, 2, none⟩ = some (.pointer (some ⟨L.T, 0, none⟩)) ∧ w.drew.cell? ⟨L.B, 5, none⟩ = some (.int .u64 x.now)) := ⟨c0, c1, c6⟩
  have CA : Hid (∀ W S m, DW W S L { x with p := m } → W.cell? ⟨L.B, 1, none⟩ = some (.pointer (some ⟨L.P, 0, none⟩)) ∧ W.cell? ⟨L.B, 2, none⟩ = some (.pointer (some ⟨L.T, 0, none⟩)) ∧ W.cell? ⟨L.B, 5, none⟩ = some (.int .u64 x.now)) := fun W S m h => ⟨h.c1, h.c2, h.c5⟩
  have CB : Hid (∀ W S m, DW W S L { x with p := m } → W.cell? ⟨L.B, 1, none⟩ = some (.pointer (some ⟨L.P, 0, none⟩)) ∧ W.cell? ⟨L.B, 3, none⟩ = some (.pointer (some ⟨L.U, 0, none⟩))) := fun W S m h => ⟨h.c1, h.c3⟩
  have CC : Hid (∀ W S m, DW W S L { x with p := m } → W.cell? ⟨L.B, 1, none⟩ = some (.pointer (some ⟨L.P, 0, none⟩)) ∧ W.cell? ⟨L.B, 4, none⟩ = some (.pointer (some ⟨L.I, 0, none⟩))) := fun W S m h => ⟨h.c1, h.c4⟩
  clear c0 c1 c2 c3 c6 CX
  go_enter Tryz.func85, Tryz.ntmps85
  go_wp2
  go_region_held3 (fun W => W.cell? ⟨L.B, 1, none⟩ = some (.pointer (some ⟨L.P, 0, none⟩)) ∧ W.cell? ⟨L.B, 2, none⟩ = some (.pointer (some ⟨L.T, 0, none⟩)) ∧ W.cell? ⟨L.B, 5, none⟩ = some (.int .u64 x.now))
    (first | exact S0.out | exact CA.out _ _ _ (by assumption) | assumption)
    (first
      | (go_at_call 130; refine Calls.mono (HA.out _ _ P0.out) ?_; rintro e z1 ⟨rfl, S1, p1, n1⟩)
      | (go_at_call 129; refine Calls.mono (HB.out _ _ p1) ?_; rintro e z2 ⟨rfl, S2, p2, n2⟩))
  have N2 : Hid (Nx w S z2 S2) := (N0.out.trans n1).trans n2
  have P2 : Hid (DW z2.drew S2 L { x with p := m1 }) := p2.drew
  have T2 : Hid (Nx w S z2.drew S2) := N2.out.trans (Nx.keep (Kp.refl _ _).drew)
  have S2' : Hid _ := CB.out _ _ _ P2.out
  clear p1 p2 n1 n2 N2 P0 N0 S0 HA HB CA
  go_wp2
  go_region_held3 (fun W => W.cell? ⟨L.B, 1, none⟩ = some (.pointer (some ⟨L.P, 0, none⟩)) ∧ W.cell? ⟨L.B, 3, none⟩ = some (.pointer (some ⟨L.U, 0, none⟩)))
    (first | exact S2'.out | exact CB.out _ _ _ (by assumption) | assumption)
    (first
      | (go_at_call 131; refine Calls.mono (HC.out _ _ P2.out) ?_; rintro e z3 ⟨rfl, S3, p3, n3⟩)
      | (go_at_call 129; refine Calls.mono (HD.out _ _ p3) ?_; rintro e z4 ⟨rfl, S4, p4, n4⟩))
  have P4 : Hid (DW z4.drew S4 L { x with p := m2 }) := p4.drew
  have T4 : Hid (Nx w S z4.drew S4) := ((T2.out.trans n3).trans n4).trans (Nx.keep (Kp.refl _ _).drew)
  have S4' : Hid _ := CC.out _ _ _ P4.out
  clear p3 p4 n3 n4 T2 P2 S2' HC HD CB
  go_wp2
  go_region_held3 (fun W => W.cell? ⟨L.B, 1, none⟩ = some (.pointer (some ⟨L.P, 0, none⟩)) ∧ W.cell? ⟨L.B, 4, none⟩ = some (.pointer (some ⟨L.I, 0, none⟩)))
    (first | exact S4'.out | exact CC.out _ _ _ (by assumption) | assumption)
    (first
      | (go_at_call 132; refine Calls.mono (HE.out _ _ P4.out) ?_; rintro e z5 ⟨rfl, S5, p5, n5⟩)
      | (go_at_call 129; refine Calls.mono (HF.out _ _ p5) ?_; rintro e z6 ⟨rfl, S6, p6, n6⟩))
  have HZ : Hid (DNx w S L x.tell z6) := by
    show DNx w S L x.tell z6
    rw [ET.out]
    exact ⟨S6, p6, (T4.out.trans n5).trans n6⟩
  clear p5 p6 n5 n6 T4 P4 S4' HE HF CC ET
  go_wp2
  go_end0
  exact ⟨rfl, HZ.out⟩
end Go.Proofs.YtiagfmkinefidaaGreat.Bs
namespace Go.Proofs.YtiagfmkinefidaaGreat.Bs
open Go.ChangeShapes Go.WideShapes Go.ChangeAt Go.RowKit
open Go.Proofs.YtiagfmkinefidaaGreat.Ut (Kp heap_lt heap_kept heap_set heap_new noB isB kpB)
set_option linter.unusedVariables false
set_option maxRecDepth 20000
theorem keyT : Tryz.prog.underlying 25 = some (.int .u16) := by kernel_rfl
theorem mapT : Tryz.prog.underlying 104 = some (.map 25 162) := by kernel_rfl
def getP : List (Int × (Dv × Int)) → Int → Option (Dv × Int)
  | [], _ => none
  | e :: es, p => if p = e.1 then some e.2 else getP es p
theorem same16 (p q : Int) : Instr.sameNow (.int .u16) (.int .u16 p) (.int .u16 q) = some (decide (p = q)) := by
  simp only [Instr.sameNow]
  simp
  rw [Bool.eq_iff_iff, beq_iff_eq, decide_eq_true_iff]
theorem find_es (L : Loc) (p : Int) : ∀ (l : List (Int × (Dv × Int))) (n i : Nat), ∃ r, Instr.findNow (.int .u16) (.int .u16 p) (esFrom L l n) i = some r ∧ r.map Prod.snd = (getP l p).map (portV L)
  | [], n, i => ⟨none, rfl, rfl⟩
  | e :: es, n, i => by
    obtain ⟨r, h1, h2⟩ := find_es L p es (n + 1) (i + 1)
    by_cases h : p = e.1
    · refine ⟨some (i, portV L e.2), ?_, ?_⟩
      · show (match Instr.sameNow (.int .u16) (.int .u16 p) (.int .u16 e.1) with | some true => some (some (i, portV L e.2)) | some false => Instr.findNow (.int .u16) (.int .u16 p) (esFrom L es (n + 1)) (i + 1) | none => none) = _
        rw [same16, decide_eq_true h]
      · unfold getP
        rw [if_pos h]
        rfl
    · refine ⟨r, ?_, ?_⟩
      · show (match Instr.sameNow (.int .u16) (.int .u16 p) (.int .u16 e.1) with | some true => some (some (i, portV L e.2)) | some false => Instr.findNow (.int .u16) (.int .u16 p) (esFrom L es (n + 1)) (i + 1) | none => none) = _
        rw [same16, decide_eq_false h]
        exact h1
      · unfold getP
        rw [if_neg h]
        exact h2
theorem put_any (b : Nat) (w : World) (es : Array MapEntry) (n : Nat) (hb : w.heap[b]? = some (.map es n)) (i : Int) (v : Value) (hf : Instr.findNow (.int .u16) (.int .u16 i) es.toList 0 = some none) :
    (Instr.mapUpdate 104 (.map (some b)) (.int .u16 i) v).run Tryz.prog w = .ok () { w with heap := w.heap.setIfInBounds b (.map (es.push ⟨.int .u16 i, v, n⟩) (n + 1)) } := by
  have hc := MapKept.run_checkKey (P := Tryz.prog) (w := w) keyT (k := .int .u16 i) (by simp [MapKept.IsKey]) false 9999
  have hd := MapKept.run_findKey (P := Tryz.prog) (w := w) keyT hf
  have hs := MapKept.run_setObj_map (P := Tryz.prog) (.map (es.push ⟨.int .u16 i, v, n⟩) (n + 1)) hb
  simp [Instr.mapUpdate, run_underlying mapT, MapKept.run_getObj_map hb, hc, hd, hs, Result.andThen]
theorem es_snoc (L : Loc) (p : Int) (q : Dv × Int) : ∀ (l : List (Int × (Dv × Int))) (n : Nat), esFrom L (l ++ [(p, q)]) n = esFrom L l n ++ [⟨.int .u16 p, portV L q, n + l.length⟩]
  | [], n => rfl
  | e :: es, n => by
    show _ :: esFrom L (es ++ [(p, q)]) (n + 1) = _
    rw [es_snoc L p q es (n + 1), show n + 1 + es.length = n + (e :: es).length by simp; omega]
    rfl
/-- A port is laid that is not there yet. -/
theorem put_port {w : World} {L : Loc} {l : List (Int × (Dv × Int))} (hb : w.heap[L.Q]? = some (mapO L l)) (p : Int) (q : Dv × Int) (hn : getP l p = none) : ∃ w', (Instr.mapUpdate 104 (.map (some L.Q)) (.int .u16 p) (portV L q)).run Tryz.prog w = .ok () w' ∧ w'.heap[L.Q]? = some (mapO L (l ++ [(p, q)])) ∧ Kp (isB L.Q) w w' := by
  obtain ⟨r, h1, h2⟩ := find_es L p l 0 0
  rw [hn] at h2
  have hr : r = none := by cases r with | none => rfl | some y => cases h2
  subst hr
  unfold mapO at hb ⊢
  refine ⟨_, put_any L.Q w _ _ hb p (portV L q) h1, ?_, ?_⟩
  · rw [(MapKept.heap_set hb).1, es_snoc]
    simp
  · exact ⟨rfl, rfl, rfl, by simp, fun k hk hs => (MapKept.heap_set hb).2 k hs⟩
end Go.Proofs.YtiagfmkinefidaaGreat.Bs
namespace Go.Proofs.YtiagfmkinefidaaGreat.Bs
open Go.ChangeShapes Go.WideShapes Go.ChangeAt Go.RowKit
open Go.Proofs.YtiagfmkinefidaaGreat.Ut (Kp heap_lt heap_kept heap_set heap_new noB isB kpB)
set_option linter.unusedVariables false
set_option maxRecDepth 20000
def rowP (p : Int) (dv : Dv) (a : Int) : Nat → List (Int × (Dv × Int))
  | 0 => []
  | n + 1 => rowP p dv a n ++ [(p + n, (dv, a + n))]
theorem cell_of {w : World} {b : Nat} {c : Array Value} {t : TypeId} {fr : Nat × Nat} (h : w.heap[b]? = some (.cells c t fr)) {k : Nat} {v : Value} (e : c[k]? = some v) : w.cell? ⟨b, k, none⟩ = some v := by
  simp [World.cell?, h, e]
theorem fz_of {w : World} {b : Nat} {c : Array Value} {t : TypeId} (h : w.heap[b]? = some (.cells c t (0, 0))) (k : Nat) : w.frozen? ⟨b, k, none⟩ = false := by
  simp [World.frozen?, h]
def entO (a : Int) (F G : Value) : Obj := .cells #[.int .i64 a, F, G] 162 (0, 0)
set_option maxHeartbeats 1000000 in
theorem lay_ok (w : World) (L : Loc) (l : List (Int × (Dv × Int))) (p a : Int) (dv : Dv) (F G : Value) (n : Nat) (hB : w.cell? ⟨L.B, 7, none⟩ = some (.map (some L.Q))) (hBl : L.B < w.heap.size) (hq : w.heap[L.Q]? = some (mapO L l)) (BQ : L.B ≠ L.Q)
    (hv : ∀ i : Nat, portV L (dv, a + i) = .agg #[.int .i64 (a + i), F, G]) (hn : ∀ i : Nat, i < n → getP (l ++ rowP p dv a i) (p + i) = none) (n8 : n ≤ 8) (p0 : 0 ≤ p) (p1 : p + 8 < 65536) (a0 : 0 ≤ a) (a1 : a < 9) :
    Calls Tryz.prog 49 #[.pointer (some ⟨L.B, 0, none⟩), .int .u16 p, .int .i64 n, .agg #[.int .i64 a, F, G]] w fun e w' => e = .returned (.tuple #[]) ∧ w'.heap[L.Q]? = some (mapO L (l ++ rowP p dv a n)) ∧ Kp (isB L.Q) w w' := by
  have HV : Hid (∀ i : Nat, portV L (dv, a + i) = .agg #[.int .i64 (a + i), F, G]) := hv
  have HN : Hid (∀ i : Nat, i < n → getP (l ++ rowP p dv a i) (p + i) = none) := hn
  have Ql := heap_lt hq
  obtain ⟨E, hE⟩ : ∃ E, E = w.heap.size := ⟨_, rfl⟩
  have P0 : Hid ((w.alloc (.cells #[.int .i64 a, F, G] 162)).heap[E]? = some (entO (a + (0 : Nat)) F G) ∧ (w.alloc (.cells #[.int .i64 a, F, G] 162)).heap[L.Q]? = some (mapO L (l ++ rowP p dv a 0)) ∧ Kp (fun k => k = L.Q ∨ k = E) w (w.alloc (.cells #[.int .i64 a, F, G] 162))) := by
    refine ⟨by rw [hE, heap_new]; simp [entO], ?_, Kp.alloc _ _ _⟩
    rw [show l ++ rowP p dv a 0 = l from List.append_nil l]
    exact heap_kept hq (Kp.alloc noB _ _) id
  have hB0 : Hid (w.cell? ⟨L.B, 7, none⟩ = some (.map (some L.Q))) := hB
  have EQ : E ≠ L.Q := by omega
  have EB : E ≠ L.B := by omega
  have HK : Hid (∀ W, Kp (fun k => k = L.Q ∨ k = E) w W → Kp (isB L.Q) w W) := fun W k => k.mono fun j hj g => by
    rcases g with g | g
    · exact g
    · omega
  clear hB hq hv hn
  go_enter Tryz.func49, Tryz.ntmps49
  go_wp2
  rw [← hE]
  clear hE
  go_loopw [1, 9] (fun s1 s9 wr => ∃ (i : Nat) (p' : Int), s1 = .int .u16 p' ∧ s9 = .int .i64 i ∧ p' = p + i ∧ i ≤ n ∧ wr.heap[E]? = some (entO (a + i) F G) ∧ wr.heap[L.Q]? = some (mapO L (l ++ rowP p dv a i)) ∧ Kp (fun k => k = L.Q ∨ k = E) w wr) (fun s1 s9 _ => ((n : Int) - intOf s9).toNat)
  case atStart => exact ⟨0, p, rfl, rfl, by omega, by omega, P0.out.1, P0.out.2.1, P0.out.2.2⟩
  case round =>
    clear P0
    obtain ⟨i, p', rfl, rfl, hp', hi, h1, h2, kk⟩ := hrel
    by_cases hlt : i < n
    · have h2d : wr.drew.heap[L.Q]? = some (mapO L (l ++ rowP p dv a i)) := h2
      obtain ⟨w2, g1, g2, g3⟩ := put_port h2d (p + i) (dv, a + i) (HN.out i hlt)
      rw [HV.out i] at g1
      rw [← hp'] at g1 g2
      obtain ⟨a2, ha2⟩ : ∃ a2, a2 = a + i := ⟨_, rfl⟩
      rw [← ha2] at g1 h1
      have b1 : IntKind.i64.wrap (a2 + 1) = a2 + 1 := by rw [IntKind.wrap_i64]; omega
      obtain ⟨p2, hp2⟩ : ∃ p2, p2 = p' + 1 := ⟨_, rfl⟩
      have b2 : IntKind.u16.wrap (p' + 1) = p2 := by rw [IntKind.wrap_u16]; omega
      have b3 : (p' + 1) % 65536 = p2 := by omega
      have h1d : wr.drew.heap[E]? = some (entO a2 F G) := h1
      unfold entO at h1d
      have c0 := cell_of h1d (k := 0) rfl
      have c1 := cell_of h1d (k := 1) rfl
      have c2 := cell_of h1d (k := 2) rfl
      have cB : wr.drew.cell? ⟨L.B, 7, none⟩ = some (.map (some L.Q)) := by
        have e : wr.heap[L.B]? = w.heap[L.B]? := kk.block L.B hBl (fun g => by rcases g with g | g <;> omega)
        have := hB0.out
        simp only [World.cell?] at this ⊢
        rw [show wr.drew.heap = wr.heap from rfl, e]
        exact this
      have e2 : w2.heap[E]? = some (entO a2 F G) := heap_kept (show wr.drew.heap[E]? = some (entO a2 F G) from h1) g3 EQ
      unfold entO at e2
      have d0 := cell_of e2 (k := 0) rfl
      have df := fz_of e2 0
      have K3 : Hid (Kp (fun k => k = L.Q ∨ k = E) w (w2.setCell ⟨E, 0, none⟩ (.int .i64 (a2 + 1)))) := ((kk.drew.trans (g3.mono fun _ _ g => .inl g)).trans (Kp.setCell w2 (p := ⟨E, 0, none⟩) (.inr rfl) _))
      have H3 : Hid ((w2.setCell ⟨E, 0, none⟩ (.int .i64 (a2 + 1))).heap[E]? = some (entO (a + (i + 1 : Nat)) F G) ∧ (w2.setCell ⟨E, 0, none⟩ (.int .i64 (a2 + 1))).heap[L.Q]? = some (mapO L (l ++ rowP p dv a (i + 1)))) := by
        refine ⟨by rw [heap_set e2, show a + ((i + 1 : Nat) : Int) = a2 + 1 by omega]; rfl, ?_⟩
        rw [heap_kept g2 (kpB E w2 0 _) (fun (g : L.Q = E) => EQ g.symm), hp', List.append_assoc]
        rfl
      have Hp2 : Hid (p2 = p + ((i + 1 : Nat) : Int)) := by show _ = _; omega
      have G1 := g1
      clear kk h1 h2 h1d h2d g1 g2 g3 e2 HN HV hp' hp2 ha2
      go_wp2
      go_region
      all_goals
        go_wp2
        go_roundw
        case rel => exact ⟨i + 1, p2, rfl, by go_num, Hp2.out, by omega, H3.out.1, H3.out.2, K3.out⟩
        case measure => simp [intOf]; omega
    · have hi' : i = n := by omega
      subst hi'
      have HZ : Hid (wr.heap[L.Q]? = some (mapO L (l ++ rowP p dv a i)) ∧ Kp (isB L.Q) w wr) := ⟨h2, HK.out _ kk⟩
      clear h1 h2 kk HN HV
      go_wp2
      go_end0
      exact ⟨rfl, HZ.out⟩
end Go.Proofs.YtiagfmkinefidaaGreat.Bs
