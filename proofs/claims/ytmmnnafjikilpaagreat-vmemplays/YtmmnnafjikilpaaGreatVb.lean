/- Texts on vmem, joined: SegGrow, SegMap, SegIns, SegMath, SegRights, SegLeaf, SegReach, OrdG, OrdP. -/
import Derived.Test.YtmmnnafjikilpaaGreatVa
import Derived.Carry
import Derived.MapKept
import Derived.OrdersHeld
import Derived.Laws.StructEq
import Derived.Laws.Bits128
/- 'Grown' with the tape, for the segments' texts: what only made new blocks turned no tape either. -/
namespace Go.Proofs.YtmmnnafjikilpaaGreat.Sg

def Grown (W w' : World) : Prop := W.keptBut w' (fun _ => False) ∧ (∀ a, w'.frozen? a = W.frozen? a) ∧ (W.heap.size ≤ w'.heap.size ∧ w'.tape = W.tape)

theorem Grown.to {W w' : World} (h : Grown W w') : Go.RowKit.Grown W w' := ⟨h.1, h.2.1, h.2.2.1⟩
theorem Grown.of {W w' : World} (h : Go.RowKit.Grown W w') (t : w'.tape = W.tape) : Grown W w' := ⟨h.1, h.2.1, h.2.2, t⟩
theorem Grown.refl (W : World) : Grown W W := .of (Go.RowKit.Grown.refl W) rfl
theorem Grown.alloc {W w' : World} (h : Grown W w') (c : Array Value) (t : TypeId) : Grown W (w'.alloc (.cells c t)) := .of (h.to.alloc c t) h.2.2.2
theorem Grown.allocMap {W w' : World} (h : Grown W w') (es : Array MapEntry) (c : Nat) : Grown W (w'.alloc (.map es c)) := .of (Go.RowKit.Grown.allocMap h.to es c) h.2.2.2
theorem Grown.drew {W w' : World} (h : Grown W w') : Grown W w'.drew := h
theorem Grown.trans {a b c : World} (h : Grown a b) (k : Grown b c) : Grown a c := .of (_root_.Go.Proofs.YtmmnnafjikilpaaGreat.Grown.trans h.to k.to) (k.2.2.2.trans h.2.2.2)
theorem Grown.cell {W w' : World} (h : Grown W w') {p : Addr} (hp : p.block < W.heap.size) : w'.cell? p = W.cell? p := _root_.Go.Proofs.YtmmnnafjikilpaaGreat.Grown.cell h.to hp
end Go.Proofs.YtmmnnafjikilpaaGreat.Sg

/- The map of rights: what it holds, whatever the order of its stores, and what it is looked up as. -/
namespace Go.Proofs.YtmmnnafjikilpaaGreat.Sg
open Go.ChangeShapes Go.WideShapes Go.ChangeAt Go.RowKit
set_option linter.unusedVariables false

/-- A key of the map. -/
def kv (s : Bool) (k : Int) : Value := .agg #[.bool s, .int .i64 k]

/-- What the kind of number n lets (its marks: 2 n); of another: nothing. -/
def rv : Nat → Value
  | 0 => .agg #[.bool false, .bool false, .bool true, .bool false, .bool false]
  | 1 => .agg #[.bool false, .bool false, .bool true, .bool true, .bool false]
  | 2 => .agg #[.bool false, .bool false, .bool true, .bool false, .bool true]
  | 3 => .agg #[.bool false, .bool false, .bool true, .bool true, .bool true]
  | 4 => .agg #[.bool true, .bool false, .bool false, .bool false, .bool false]
  | 5 => .agg #[.bool true, .bool false, .bool true, .bool false, .bool false]
  | 6 => .agg #[.bool true, .bool true, .bool false, .bool false, .bool false]
  | 7 => .agg #[.bool true, .bool true, .bool true, .bool false, .bool false]
  | _ => .agg #[.bool false, .bool false, .bool false, .bool false, .bool false]

theorem mapT : Tryz.prog.underlying 162 = some (.map 161 152) := by kernel_rfl
theorem zeroT (w : World) : (zeroValue 152).run Tryz.prog w = .ok (rv 8) w := by kernel_rfl
theorem chk (w : World) (e s : Bool) (k : Int) : (Instr.checkKey e 10000 161 (kv s k)).run Tryz.prog w = .ok () w := by kernel_rfl

theorem eqK (w : World) (s s' : Bool) (k k' : Int) : (Op.equal 161 (kv s k) (kv s' k')).run Tryz.prog w = .ok (decide (s = s' ∧ k = k')) w := by
  unfold Op.equal Op.maxDepth
  have u3 := Tryz.underlying3
  have a3 := Tryz.isAgg3
  have z3 := Tryz.sizeOf3
  have u4 := Tryz.underlying4
  have a4 := Tryz.isAgg4
  have z4 := Tryz.sizeOf4
  unfold kv
  rw [run_equalIn_struct w 9999 161 _ _ (by kernel_rfl) (by kernel_rfl)]
  simp only [Program.fieldsOf, Tryz.underlying161]
  go_simp
  by_cases h1 : s = s'
  · by_cases h2 : k = k'
    · simp [h1, h2]
    · simp [h1, h2]
  · simp [h1]

theorem alloc_set (w : World) (o o' : Obj) : ({ w.alloc o with heap := (w.alloc o).heap.setIfInBounds w.heap.size o' } : World) = w.alloc o' := by
  have e : (w.alloc o).heap.setIfInBounds w.heap.size o' = (w.alloc o').heap := by
    show (w.heap.push o).setIfInBounds w.heap.size o' = w.heap.push o'
    apply Array.ext
    · simp
    · intro i h1 h2
      have h3 : i < w.heap.size + 1 := by simpa using h2
      by_cases h : w.heap.size = i
      · subst h; simp
      · have h4 : i < w.heap.size := by omega
        rw [Array.getElem_setIfInBounds_ne (h := h), Array.getElem_push_lt h4, Array.getElem_push_lt h4]
        simp; omega
  rw [e]
  rfl



/-- Entries, by marks and number. -/
def ents : Nat → List (Int × Nat) → List MapEntry
  | _, [] => []
  | i, e :: r => ⟨kv false e.1, rv e.2, i⟩ :: ents (i + 1) r

theorem ents_app : ∀ (L : List (Int × Nat)) (e : Int × Nat) (i : Nat), ents i (L ++ [e]) = ents i L ++ [⟨kv false e.1, rv e.2, i + L.length⟩]
  | [], e, i => rfl
  | x :: r, e, i => by
    simp only [List.cons_append, ents, ents_app r e (i + 1), List.length_cons]
    rw [show i + 1 + r.length = i + (r.length + 1) by omega]

def look (L : List (Int × Nat)) (i : Int) : Option Nat := match L with | [] => none | e :: r => if i = e.1 then some e.2 else look r i

/-- What is found: a number, of nothing 8. -/
def num : Option Nat → Nat
  | some n => n
  | none => 8

def rvP : Option (Nat × Value) → Value
  | some (_, v) => v
  | none => rv 8

theorem ask (w : World) (s : Bool) (k : Int) : ∀ (L : List (Int × Nat)) (j c : Nat), ∃ r, (Instr.findAsking 161 (kv s k) (ents j L) c).run Tryz.prog w = .ok r w ∧ rvP r = rv (num (if s then none else look L k)) ∧ ((∀ e ∈ L, e.1 ≠ k) → r = none)
  | [], j, c => ⟨none, by simp [ents, Instr.findAsking], by cases s <;> simp [look, rvP, num], fun _ => rfl⟩
  | e :: l, j, c => by
    obtain ⟨r, h1, h2, h3⟩ := ask w s k l (j + 1) (c + 1)
    by_cases he : s = false ∧ k = e.1
    · obtain ⟨rfl, rfl⟩ := he
      refine ⟨some (c, rv e.2), ?_, by simp [look, rvP, num], fun h => absurd rfl (h e (by simp))⟩
      simp [ents, Instr.findAsking, eqK, Result.andThen]
    · refine ⟨r, ?_, ?_, fun h => h3 fun x hx => h x (by simp [hx])⟩
      · simp [ents, Instr.findAsking, eqK, he, Result.andThen, h1]
      · rw [h2]
        cases s
        · have : ¬ k = e.1 := fun x => he ⟨rfl, x⟩
          simp [look, this]
        · rfl

theorem fnd (w : World) (s : Bool) (k : Int) (L : List (Int × Nat)) (j : Nat) : ∃ r, (Instr.findKey 161 (kv s k) (ents j L)).run Tryz.prog w = .ok r w ∧ rvP r = rv (num (if s then none else look L k)) ∧ ((∀ e ∈ L, e.1 ≠ k) → r = none) := by
  obtain ⟨r, h1, h2, h3⟩ := ask w s k L j 0
  refine ⟨r, ?_, h2, h3⟩
  cases L with
  | nil =>
    have : r = none := h3 (by simp)
    subst this
    simp [Instr.findKey, Tryz.underlying161, ents, Instr.findNow, Result.andThen, run_underlying]
  | cons e l =>
    have hn : ∀ fs, Instr.findNow (.struct fs) (kv s k) (ents j (e :: l)) 0 = none := fun fs => by simp [ents, Instr.findNow, Instr.sameNow]
    simp [Instr.findKey, run_underlying Tryz.underlying161, hn, h1, Result.andThen]

def mp (w : World) (L : List (Int × Nat)) : World := w.alloc (.map (ents 0 L).toArray L.length)

/-- The same behind a draw. -/
def md (w : World) (L : List (Int × Nat)) : World := (mp w L).drew

theorem put_mp (w : World) (L : List (Int × Nat)) (k : Int) (n : Nat) (h : ∀ e ∈ L, e.1 ≠ k) :
    (Instr.mapUpdate 162 (.map (some w.heap.size)) (kv false k) (rv n)).run Tryz.prog (mp w L) = .ok () (mp w (L ++ [(k, n)])) := by
  have hb : (mp w L).heap[w.heap.size]? = some (.map (ents 0 L).toArray L.length) := (MapKept.heap_alloc w _).1
  obtain ⟨r, h1, _, h3⟩ := fnd (mp w L) false k L 0
  have hr := h3 h
  subst hr
  have hs := MapKept.run_setObj_map (P := Tryz.prog) (.map ((ents 0 L).toArray.push ⟨kv false k, rv n, L.length⟩) (L.length + 1)) hb
  have e : mp w (L ++ [(k, n)]) = w.alloc (.map ((ents 0 L).toArray.push ⟨kv false k, rv n, L.length⟩) (L.length + 1)) := by
    unfold mp
    rw [ents_app]
    simp
  rw [e]
  have hs' : (setObj w.heap.size (.map ((ents 0 L).toArray.push ⟨kv false k, rv n, L.length⟩) (L.length + 1))).run Tryz.prog (mp w L) = .ok () (w.alloc (.map ((ents 0 L).toArray.push ⟨kv false k, rv n, L.length⟩) (L.length + 1))) := by
    rw [hs]
    unfold mp
    rw [alloc_set]
  simp [Instr.mapUpdate, run_underlying mapT, MapKept.run_getObj_map hb, chk, h1, Result.andThen]
  simpa using hs'

theorem look_md (w : World) (L : List (Int × Nat)) (s : Bool) (k : Int) :
    (Instr.lookup 162 (.map (some w.heap.size)) (kv s k) false).run Tryz.prog (md w L) = .ok (rv (num (if s then none else look L k))) (md w L) := by
  have hb : (md w L).heap[w.heap.size]? = some (.map (ents 0 L).toArray L.length) := (MapKept.heap_alloc w _).1
  obtain ⟨r, h1, h2, _⟩ := fnd (md w L) s k L 0
  have hz := zeroT (md w L)
  cases r with
  | none => simp [Instr.lookup, run_underlying mapT, MapKept.run_getObj_map hb, chk, h1, hz, Result.andThen, ← h2, rvP]
  | some p => simp [Instr.lookup, run_underlying mapT, MapKept.run_getObj_map hb, chk, h1, Result.andThen, ← h2, rvP]

/-- Lists with the same entries, no key twice, are looked up alike. -/
theorem look_mem : ∀ (L : List (Int × Nat)) (i : Int) (n : Nat), (L.map Prod.fst).Nodup → (look L i = some n ↔ (i, n) ∈ L)
  | [], i, n, _ => by simp [look]
  | x :: r, i, n, h => by
    have hr : (r.map Prod.fst).Nodup := (List.nodup_cons.1 (by simpa using h)).2
    have hx : x.1 ∉ r.map Prod.fst := (List.nodup_cons.1 (by simpa using h)).1
    by_cases hi : i = x.1
    · simp only [look, if_pos hi]
      constructor
      · intro e
        injection e with e
        rw [hi, ← e]
        simp
      · intro e
        rcases List.mem_cons.1 e with e | e
        · rw [← e]
        · exact absurd (List.mem_map.2 ⟨(i, n), e, hi⟩) hx
    · simp only [look, if_neg hi]
      rw [look_mem r i n hr]
      simp
      intro e
      exact absurd (by rw [← e]) hi

theorem look_same {L L' : List (Int × Nat)} (h : ∀ e, e ∈ L ↔ e ∈ L') (n1 : (L.map Prod.fst).Nodup) (n2 : (L'.map Prod.fst).Nodup) (i : Int) : look L i = look L' i := by
  cases h1 : look L i with
  | some n => exact ((look_mem L' i n n2).2 ((h _).1 ((look_mem L i n n1).1 h1))).symm
  | none =>
    cases h2 : look L' i with
    | none => rfl
    | some n => rw [(look_mem L i n n1).2 ((h _).2 ((look_mem L' i n n2).1 h2))] at h1; cases h1


end Go.Proofs.YtmmnnafjikilpaaGreat.Sg

/- A region whose last operations are stores of new keys into a map, in whatever order. -/
namespace Go.Proofs.YtmmnnafjikilpaaGreat.Sg
open Go.ChangeShapes Go.WideShapes Go.ChangeAt Go.RowKit
set_option linter.unusedVariables false

theorem then_act {K : Act → World → Prop} {Q : Exit → Act → World → Prop} {a b : Act} {w : World} (e : b = a) (h : Exit.then K Q .normal a w) : Exit.then K Q .normal b w := e ▸ h

/-- Listed are those of F, but for J. -/
def lst (F : Array Bool) (J : List Nat) : Array Bool := (List.range F.size).map (fun i => F.getD i false && !J.contains i) |>.toArray

theorem lst_size (F : Array Bool) (J : List Nat) : (lst F J).size = F.size := by simp [lst]

theorem lst_get (F : Array Bool) (J : List Nat) (i : Nat) (d : Bool) (hi : i < F.size) : (lst F J).getD i d = (F.getD i false && !J.contains i) := by
  unfold lst
  simp [Array.getD, hi]

theorem lst_set (F : Array Bool) (J : List Nat) (i : Nat) (hi : i < F.size) (hF : F.getD i false = true) : (lst F J).setIfInBounds i true = lst F (J.filter (· ≠ i)) := by
  apply Array.ext
  · simp [lst]
  · intro j h1 h2
    have hj : j < F.size := by simpa [lst] using h2
    have e1 : ((lst F J).setIfInBounds i true)[j] = if i = j then true else (lst F J)[j]'(by rw [lst_size]; exact hj) := by
      rw [Array.getElem_setIfInBounds]
    rw [e1]
    have g : ∀ K : List Nat, ∀ h : j < (lst F K).size, (lst F K)[j] = (F.getD j false && !K.contains j) := fun K h => by simp [lst]
    rw [g, g]
    by_cases e : i = j
    · subst e
      simp [hF]
    · rw [if_neg e]
      have : (J.filter (· ≠ i)).contains j = J.contains j := by
        have e' : ¬ j = i := fun x => e x.symm
        simp [List.contains_eq_mem, List.mem_filter, e']
      rw [this]

theorem lst_nil (F : Array Bool) : lst F [] = F := by
  apply Array.ext
  · simp [lst]
  · intro j h1 h2
    simp [lst, Array.getElem?_eq_getElem h2]

section
variable {P : Program} {md' : Region.Mode} {ops : Array Oper} {Q : Exit → Act → World → Prop} {S : World → Prop}

theorem mem_ready {listed : Array Bool} {i : Nat} : i ∈ Region.ready md' ops listed ↔ i < ops.size ∧ listed.getD i true = false ∧ ((ops[i]?).map (·.after.all fun e => !Region.binds md' e || listed.getD e.on false)).getD false = true := by
  simp [Region.ready]

theorem ins_phase (a : Act) (w0 : World) (hS : ∀ L, S (md w0 L)) (ent : Nat → Int × Nat) (idx : List Nat) (F : Array Bool) (hsz : F.size = ops.size)
    (hkeys : ∀ i ∈ idx, ∀ j ∈ idx, (ent i).1 = (ent j).1 → i = j)
    (hF : ∀ i ∈ idx, F.getD i false = true)
    (hdep : ∀ i ∈ idx, i < ops.size ∧ ∃ o, ops[i]? = some o ∧ ∀ e ∈ o.after, Region.binds md' e = true → e.on < ops.size ∧ F.getD e.on false = true ∧ e.on ∉ idx)
    (hfin : ∀ i, i < ops.size → F.getD i false = false → ∃ o, ops[i]? = some o ∧ ((∀ j ∈ idx, ∃ e ∈ o.after, Region.binds md' e = true ∧ e.on = j) ∨ ∃ e ∈ o.after, Region.binds md' e = true ∧ e.on < ops.size ∧ F.getD e.on false = false))
    (hstep : ∀ i ∈ idx, ∀ (L : List (Int × Nat)) (K : Act → World → Prop), (∀ e ∈ L, e.1 ≠ (ent i).1) → K a (md w0 (L ++ [ent i])) → wpOp P ops Q i K a (md w0 L))
    (fuel : Nat) (hend : ∀ L : List (Int × Nat), (∀ e, e ∈ L ↔ ∃ i ∈ idx, e = ent i) → (L.map Prod.fst).Nodup → wpAnyH P md' ops Q S fuel F a (md w0 L)) :
    ∀ (n : Nat) (J : List Nat) (L : List (Int × Nat)), J.length = n → J.Nodup → (∀ i ∈ J, i ∈ idx) → (∀ e, e ∈ L ↔ ∃ i ∈ idx, i ∉ J ∧ e = ent i) → (L.map Prod.fst).Nodup → wpAnyH P md' ops Q S (fuel + n) (lst F J) a (md w0 L) := by
  intro n
  induction n with
  | zero =>
    intro J L hn hJ hJi hL hLn
    have : J = [] := List.eq_nil_of_length_eq_zero hn
    subst this
    rw [lst_nil]
    exact hend L (fun e => by rw [hL]; simp) hLn
  | succ n ih =>
    intro J L hn hJ hJi hL hLn
    have hready : ∀ i, i ∈ J → i ∈ Region.ready md' ops (lst F J) := fun i hi => by
      obtain ⟨h1, o, ho, hd⟩ := hdep i (hJi i hi)
      refine mem_ready.2 ⟨h1, ?_, ?_⟩
      · rw [lst_get _ _ _ _ (by omega)]
        simp [List.contains_eq_mem, hi]
      · rw [ho]
        simp only [Option.map_some, Option.getD_some, Array.all_eq_true_iff_forall_mem]
        intro e he
        cases hb : Region.binds md' e with
        | false => simp
        | true =>
          obtain ⟨g1, g2, g3⟩ := hd e he hb
          rw [lst_get _ _ _ _ (by omega), g2]
          have : e.on ∉ J := fun x => g3 (hJi _ x)
          simp [List.contains_eq_mem, this]
    have hJne : J ≠ [] := fun e => by rw [e] at hn; simp at hn
    refine wpAnyH_all rfl ?_ ?_
    · obtain ⟨j, hj⟩ := List.exists_mem_of_ne_nil J hJne
      exact List.ne_nil_of_mem (hready j hj)
    · intro i hi
      obtain ⟨h1, h2, h3⟩ := mem_ready.1 hi
      rw [lst_get _ _ _ _ (by omega)] at h2
      have hiJ : i ∈ J := by
        by_cases hx : i ∈ J
        · exact hx
        · exfalso
          have hFi : F.getD i false = false := by simpa [List.contains_eq_mem, hx] using h2
          obtain ⟨o, ho, hd⟩ := hfin i h1 hFi
          rw [ho] at h3
          simp only [Option.map_some, Option.getD_some, Array.all_eq_true_iff_forall_mem] at h3
          rcases hd with hd | ⟨e, he, hb, hs, hne⟩
          · obtain ⟨j, hj⟩ := List.exists_mem_of_ne_nil J hJne
            obtain ⟨e, he, hb, hon⟩ := hd j (hJi j hj)
            have := h3 e he
            rw [hb, hon, lst_get _ _ _ _ (by have := (hdep j (hJi j hj)).1; omega)] at this
            simp [List.contains_eq_mem, hj] at this
          · have := h3 e he
            rw [hb, lst_get _ _ _ _ (by omega), hne] at this
            simp at this
      refine hstep i (hJi i hiJ) L _ ?_ ⟨hS _, ?_⟩
      · intro e he
        obtain ⟨j, hj, hjn, rfl⟩ := (hL e).1 he
        intro hk
        exact hjn (by rw [hkeys j hj i (hJi i hiJ) hk]; exact hiJ)
      · rw [lst_set F J i (by omega) (hF i (hJi i hiJ))]
        have hlen : (J.filter (· ≠ i)).length = n := by
          have := List.length_erase_of_mem hiJ
          rw [hJ.erase_eq_filter] at this
          have e2 : J.filter (· != i) = J.filter (· ≠ i) := by congr 1; funext x; by_cases hx : x = i <;> simp [hx]
          rw [e2] at this
          omega
        refine ih _ _ hlen (hJ.filter _) (fun j hj => hJi j (List.mem_filter.1 hj).1) (fun e => ?_) ?_
        · rw [List.mem_append, hL]
          constructor
          · rintro (⟨j, hj, hjn, rfl⟩ | he)
            · exact ⟨j, hj, fun x => hjn (List.mem_filter.1 x).1, rfl⟩
            · exact ⟨i, hJi i hiJ, fun x => by simpa using (List.mem_filter.1 x).2, by simpa using he⟩
          · rintro ⟨j, hj, hjn, rfl⟩
            by_cases hji : j = i
            · right; rw [hji]; simp
            · left
              exact ⟨j, hj, fun x => hjn (List.mem_filter.2 ⟨x, by simpa using hji⟩), rfl⟩
        · rw [List.map_append, List.nodup_append]
          refine ⟨hLn, by simp, ?_⟩
          intro x hx y hy
          simp at hy
          subst hy
          obtain ⟨e, he, rfl⟩ := List.mem_map.1 hx
          obtain ⟨j, hj, hjn, rfl⟩ := (hL e).1 he
          intro hk
          exact hjn (by rw [hkeys j hj i (hJi i hiJ) hk]; exact hiJ)

def depB (ops : Array Oper) (md' : Region.Mode) (F : Array Bool) (idx : List Nat) : Bool :=
  idx.all fun i => decide (i < ops.size) && F.getD i false && match ops[i]? with
    | some o => o.after.all fun e => !Region.binds md' e || (decide (e.on < ops.size) && F.getD e.on false && !idx.contains e.on)
    | none => false
def finB (ops : Array Oper) (md' : Region.Mode) (F : Array Bool) (idx : List Nat) : Bool :=
  (List.range ops.size).all fun i => F.getD i false || match ops[i]? with
    | some o => (idx.all fun j => o.after.any fun e => Region.binds md' e && e.on == j) || o.after.any fun e => Region.binds md' e && decide (e.on < ops.size) && !F.getD e.on false
    | none => false

theorem ins_all (a : Act) (w0 : World) (hS : ∀ L, S (md w0 L)) (ent : Nat → Int × Nat) (idx : List Nat) (F listed : Array Bool) (hl : listed = lst F idx) (hsz : F.size = ops.size) (hnd : idx.Nodup)
    (hkeys : ∀ i ∈ idx, ∀ j ∈ idx, (ent i).1 = (ent j).1 → i = j) (hdep : depB ops md' F idx = true) (hfin : finB ops md' F idx = true)
    (hstep : ∀ i ∈ idx, ∀ (L : List (Int × Nat)) (K : Act → World → Prop), (∀ e ∈ L, e.1 ≠ (ent i).1) → K a (md w0 (L ++ [ent i])) → wpOp P ops Q i K a (md w0 L))
    (fuel n : Nat) (hn : n = fuel + idx.length) (hend : ∀ L : List (Int × Nat), (∀ e, e ∈ L ↔ e ∈ idx.map ent) → (L.map Prod.fst).Nodup → wpAnyH P md' ops Q S fuel F a (md w0 L)) : wpAnyH P md' ops Q S n listed a (md w0 []) := by
  rw [hl, hn]
  unfold depB at hdep
  rw [List.all_eq_true] at hdep
  unfold finB at hfin
  rw [List.all_eq_true] at hfin
  refine ins_phase (md' := md') a w0 hS ent idx F hsz hkeys ?_ ?_ ?_ hstep fuel ?_ idx.length idx [] rfl hnd (fun _ h => h) (fun e => by simp; intro i hi hn; exact absurd hi hn) (by simp)
  · intro i hi
    have := hdep i hi
    simp at this
    simpa using this.1.2
  · intro i hi
    have := hdep i hi
    simp only [Bool.and_eq_true, decide_eq_true_eq] at this
    obtain ⟨⟨h1, h2⟩, h3⟩ := this
    refine ⟨h1, ?_⟩
    cases ho : ops[i]? with
    | none => rw [ho] at h3; cases h3
    | some o =>
      rw [ho] at h3
      refine ⟨o, rfl, fun e he hb => ?_⟩
      simp only [Array.all_eq_true_iff_forall_mem] at h3
      have := h3 e he
      rw [hb] at this
      simp only [Bool.not_true, Bool.false_or, Bool.and_eq_true, decide_eq_true_eq] at this
      exact ⟨this.1.1, this.1.2, by simpa [List.contains_eq_mem] using this.2⟩
  · intro i hi hFi
    have := hfin i (List.mem_range.2 hi)
    rw [hFi, Bool.false_or] at this
    cases ho : ops[i]? with
    | none => rw [ho] at this; cases this
    | some o =>
      rw [ho] at this
      refine ⟨o, rfl, ?_⟩
      simp only [Bool.or_eq_true] at this
      rcases this with h | h
      · left
        intro j hj
        rw [List.all_eq_true] at h
        have := h j hj
        rw [Array.any_eq_true] at this
        obtain ⟨k, hk, hb⟩ := this
        simp at hb
        exact ⟨_, Array.getElem_mem hk, hb.1, hb.2⟩
      · right
        rw [Array.any_eq_true] at h
        obtain ⟨k, hk, hb⟩ := h
        simp only [Bool.and_eq_true, decide_eq_true_eq, Bool.not_eq_true'] at hb
        exact ⟨_, Array.getElem_mem hk, hb.1.1, hb.1.2, hb.2⟩
  · intro L hL hLn
    refine hend L (fun e => ?_) hLn
    rw [hL]
    simp [List.mem_map, eq_comm]

/-- One store as one step of the region. -/
theorem step_ins {i : Nat} {a : Act} {w0 : World} {o : Oper} {L : List (Int × Nat)} {K : Act → World → Prop} {m k v : Operand} {key : Int} {n : Nat} (ho : ops[i]? = some o) (hg : o.guard = none) (hd : o.dst = none) (hop : o.op = Op.insert 162 m k v)
    (hm : a.eval m = .map (some w0.heap.size)) (hk : a.eval k = kv false key) (hv : a.eval v = rv n) (hL : ∀ e ∈ L, e.1 ≠ key) (hK : K a (md w0 (L ++ [(key, n)]))) : wpOp Tryz.prog ops Q i K a (md w0 L) := by
  have hrun := put_mp w0.drew L key n hL
  have hrun' : (Instr.mapUpdate 162 (.map (some w0.heap.size)) (kv false key) (rv n)).run Tryz.prog (md w0 L) = .ok () (md w0 (L ++ [(key, n)])) := hrun
  refine wpOp_step ho fun K' hK' => ?_
  have hw : Region.wanted o (yielded ops a.tmps) = true := by simp [Region.wanted, hg]
  rw [if_pos hw]
  unfold Oper.wp
  simp [execOp, hop, hm, hk, hv, hrun', Result.andThen, Oper.upon]
  have hp : a.put o.dst undef = a := by rw [hd]; rfl
  rw [hp]
  exact hK' _ _ hK

theorem step_make {i : Nat} {a : Act} {w : World} {o : Oper} {K : Act → World → Prop} {M : Nat} (ho : ops[i]? = some o) (hg : o.guard = none) (hd : o.dst = some M) (hop : o.op = Op.makeMap 162 none)
    (hK : K (a.put (some M) (.map (some w.heap.size))) (md w [])) : wpOp Tryz.prog ops Q i K a w.drew := by
  have hmm : (Instr.makeMap 162 none).run Tryz.prog w.drew = .ok (.map (some w.heap.size)) (md w []) := run_makeMap (P := Tryz.prog) _ w.drew
  refine wpOp_step ho fun K' hK' => ?_
  have hw : Region.wanted o (yielded ops a.tmps) = true := by simp [Region.wanted, hg]
  rw [if_pos hw]
  unfold Oper.wp
  simp [execOp, hop, hmm, Result.andThen, Oper.upon]
  rw [hd]
  exact hK' _ _ hK

end

end Go.Proofs.YtmmnnafjikilpaaGreat.Sg

/- Plain facts on descriptors' words, and what a segment's type lets: no Go in sight. -/
namespace Go.Proofs.YtmmnnafjikilpaaGreat.Sg
open Go.RowKit
set_option linter.unusedVariables false

theorem nat_even (n : Nat) (hn : n < 18446744073709551616) : n &&& 18446744073709551614 = n / 2 * 2 := by
  have h1 : (n &&& 18446744073709551614) / 2 = n / 2 := by
    have e := Nat.and_div_two_pow (a := n) (b := 18446744073709551614) (n := 1)
    rw [show (2 : Nat) ^ 1 = 2 from rfl] at e
    rw [e]
    have m := Nat.and_two_pow_sub_one_eq_mod (n / 2) 63
    rw [show (18446744073709551614 : Nat) / 2 = 2 ^ 63 - 1 from by decide, m]
    exact Nat.mod_eq_of_lt (by omega)
  have h2 : (n &&& 18446744073709551614) % 2 = 0 := by
    have e := Nat.and_mod_two_pow (a := n) (b := 18446744073709551614) (n := 1)
    rw [show (2 : Nat) ^ 1 = 2 from rfl] at e
    rw [e]
    simp
  omega

theorem type_even (t : Int) (t0 : -9223372036854775808 ≤ t) (t1 : t < 9223372036854775808) : bits .andNot .i64 t 1 = t - t % 2 := by
  show IntKind.i64.wrap ((BitVec.ofInt 64 t &&& ~~~BitVec.ofInt 64 1).toNat : Int) = _
  have hw : ∀ n : Int, IntKind.i64.wrap n = (n + 9223372036854775808) % 18446744073709551616 - 9223372036854775808 := fun n => by
    simp [IntKind.wrap, IntKind.bits, IntKind.signed]
    have := Int.bmod_def n 18446744073709551616
    omega
  rw [BitVec.toNat_and]
  have e1 : (~~~BitVec.ofInt 64 1).toNat = 18446744073709551614 := by decide
  have e2 : (BitVec.ofInt 64 t).toNat = (t % 18446744073709551616).toNat := by rw [BitVec.toNat_ofInt]; rfl
  rw [e1, e2, nat_even _ (by omega), hw]
  omega

/-- What a segment is, by System and Type. -/
def isD (s : Bool) (t : Int) : Bool := !s && decide (0 ≤ t) && decide (t < 8)
def isC (s : Bool) (t : Int) : Bool := !s && decide (8 ≤ t) && decide (t < 16)
def two (t : Int) : Bool := decide (t / 2 % 2 = 1)
def four (t : Int) : Bool := decide (t / 4 % 2 = 1)

/-- What it lets. -/
def rF (s : Bool) (t : Int) : Bool := isC s t && four t
def rR (s : Bool) (t : Int) : Bool := isD s t || isC s t && two t
def rW (s : Bool) (t : Int) : Bool := isD s t && two t
def rD (s : Bool) (t : Int) : Bool := isD s t && four t

def szB (n : Int) : Bool := n == 1 || n == 2 || n == 4 || n == 8
def topB (g : Bool) : Int := if g then 4294967295 else 65535

def reachX (wr R Wt p D g : Bool) (l off size : Int) : Bool :=
  (if wr then Wt else R) && p && szB size && (if D then decide (l < off) && decide (off + size - 1 ≤ topB g) else decide (off + size - 1 ≤ l))
def reachB (l t : Int) (s p g : Bool) (off size : Int) (wr : Bool) : Bool :=
  reachX wr (rR s t) (rW s t) p (rD s t) g l off size

/-- The kind's number: half its marks, or 8. -/
def kindN (s : Bool) (t : Int) : Nat := if s = false ∧ 0 ≤ t ∧ t < 16 then (t / 2).toNat else 8
end Go.Proofs.YtmmnnafjikilpaaGreat.Sg

/- rightsOf: what it answers, of any descriptor. -/
namespace Go.Proofs.YtmmnnafjikilpaaGreat.Sg
open Go.ChangeShapes Go.WideShapes Go.ChangeAt Go.RowKit
set_option linter.unusedVariables false

/-- A descriptor. -/
def dv (b l t : Int) (s : Bool) (d : Int) (p g : Bool) : Value := .agg #[.int .u32 b, .int .u32 l, .int .i64 t, .bool s, .int .i64 d, .bool p, .bool g]

def enR (i : Nat) : Int × Nat := ([(0, 0), (0, 0), (0, 0), (0, 0), (0, 0), (0, 0), (2, 1), (0, 0), (0, 0), (4, 2), (0, 0), (0, 0), (6, 3), (0, 0), (0, 0), (8, 4), (0, 0), (0, 0), (10, 5), (0, 0), (0, 0), (12, 6), (0, 0), (0, 0), (14, 7)] : List (Int × Nat)).getD i (0, 0)
def ixR : List Nat := [3, 6, 9, 12, 15, 18, 21, 24]
def LR : List (Int × Nat) := [(0, 0), (2, 1), (4, 2), (6, 3), (8, 4), (10, 5), (12, 6), (14, 7)]

theorem look_R (s : Bool) (t : Int) : num (if s then none else look LR (t - t % 2)) = kindN s t := by
  cases s with
  | true => simp [kindN, num]
  | false =>
    simp only [Bool.false_eq_true, if_false, kindN]
    by_cases h : 0 ≤ t ∧ t < 16
    · rw [if_pos ⟨trivial, h⟩]
      obtain ⟨n, rfl⟩ := Int.eq_ofNat_of_zero_le h.1
      have : ∀ n : Fin 16, num (look LR (((n : Nat) : Int) - ((n : Nat) : Int) % 2)) = (((n : Nat) : Int) / 2).toNat := by decide +kernel
      exact this ⟨n, by omega⟩
    · rw [if_neg (fun x => h x.2)]
      have ne : ∀ k : Int, 0 ≤ k → k ≤ 14 → k % 2 = 0 → ¬ t - t % 2 = k := fun k h0 h1 h2 => by omega
      simp [LR, look, num, ne 0 (by decide) (by decide) (by decide), ne 2 (by decide) (by decide) (by decide), ne 4 (by decide) (by decide) (by decide), ne 6 (by decide) (by decide) (by decide), ne 8 (by decide) (by decide) (by decide), ne 10 (by decide) (by decide) (by decide), ne 12 (by decide) (by decide) (by decide), ne 14 (by decide) (by decide) (by decide)]

theorem rv_R (s : Bool) (t : Int) : rv (kindN s t) = .agg #[.bool (isC s t), .bool (rF s t), .bool (rR s t), .bool (rW s t), .bool (rD s t)] := by
  unfold rF rR rW rD isC isD two four kindN
  by_cases h : s = false ∧ 0 ≤ t ∧ t < 16
  · obtain ⟨rfl, h0, h1⟩ := h
    rw [if_pos ⟨rfl, h0, h1⟩]
    have : t = 0 ∨ t = 1 ∨ t = 2 ∨ t = 3 ∨ t = 4 ∨ t = 5 ∨ t = 6 ∨ t = 7 ∨ t = 8 ∨ t = 9 ∨ t = 10 ∨ t = 11 ∨ t = 12 ∨ t = 13 ∨ t = 14 ∨ t = 15 := by omega
    rcases this with rfl | rfl | rfl | rfl | rfl | rfl | rfl | rfl | rfl | rfl | rfl | rfl | rfl | rfl | rfl | rfl <;> simp [rv]
  · rw [if_neg h]
    cases s with
    | true => simp [rv]
    | false =>
      have h0 : ¬ (0 ≤ t ∧ t < 16) := fun x => h ⟨rfl, x⟩
      have e1 : (decide (0 ≤ t) && decide (t < 8)) = false := by simp; omega
      have e2 : (decide (8 ≤ t) && decide (t < 16)) = false := by simp; omega
      simp [rv, e1, e2]

/-- The cells of the descriptor's box that are read. -/
def boxS (B : Nat) (s : Bool) (t : Int) (w : World) : Prop := w.cell? ⟨B, 3, none⟩ = some (.bool s) ∧ w.cell? ⟨B, 2, none⟩ = some (.int .i64 t)

theorem step_look {ops : Array Oper} {Q : Exit → Act → World → Prop} {i : Nat} {a : Act} {w : World} {o : Oper} {K : Act → World → Prop} {m k : Operand} {mv kx v : Value} {T : TypeId} (ho : ops[i]? = some o) (hg : o.guard = none) (hop : o.op = Op.lookup T m k false)
    (hm : a.eval m = mv) (hk : a.eval k = kx) (hrun : (Instr.lookup T mv kx false).run Tryz.prog w = .ok v w) (hK : K (a.put o.dst v) w) : wpOp Tryz.prog ops Q i K a w := by
  refine wpOp_step ho fun K' hK' => ?_
  have hw : Region.wanted o (yielded ops a.tmps) = true := by simp [Region.wanted, hg]
  rw [if_pos hw]
  unfold Oper.wp
  simp [execOp, hop, hm, hk, hrun, Result.andThen, Oper.upon]
  exact hK' _ _ hK

theorem step_store {ops : Array Oper} {Q : Exit → Act → World → Prop} {i : Nat} {a : Act} {w w' : World} {o : Oper} {K : Act → World → Prop} {m k : Operand} {mv kx : Value} {T : TypeId} (ho : ops[i]? = some o) (hg : o.guard = none) (hd : o.dst = none) (hop : o.op = Op.store T m k)
    (hm : a.eval m = mv) (hk : a.eval k = kx) (hrun : (Instr.storeAt T mv kx).run Tryz.prog w = .ok () w') (hK : K a w') : wpOp Tryz.prog ops Q i K a w := by
  refine wpOp_step ho fun K' hK' => ?_
  have hw : Region.wanted o (yielded ops a.tmps) = true := by simp [Region.wanted, hg]
  rw [if_pos hw]
  unfold Oper.wp
  simp [execOp, hop, hm, hk, hrun, Result.andThen, Oper.upon]
  have hp : a.put o.dst undef = a := by rw [hd]; rfl
  rw [hp]
  exact hK' _ _ hK

theorem st5 (w : World) (A M : Obj) (c1 c2 c3 c4 c5 : Bool) : (Instr.storeAt 152 (.pointer (some ⟨w.heap.size + 1, 0, none⟩)) (.agg #[.bool c1, .bool c2, .bool c3, .bool c4, .bool c5])).run Tryz.prog (((w.alloc A).alloc (.cells #[.bool false, .bool false, .bool false, .bool false, .bool false] 152)).alloc M).drew =
    .ok () (((w.alloc A).alloc (.cells #[.bool c1, .bool c2, .bool c3, .bool c4, .bool c5] 152)).alloc M).drew := by
  go_simp

def ffR : Array Bool := #[true, true, true, true, true, true, true, true, true, true, true, true, true, true, true, true, true, true, true, true, true, true, true, true, true, false, true, true, true, true, true, true, false, false]

set_option maxHeartbeats 2000000 in
theorem rights_any (b l t : Int) (s : Bool) (d : Int) (p g : Bool) (w : World) (t0 : -9223372036854775808 ≤ t) (t1 : t < 9223372036854775808) :
    Calls Tryz.prog 82 #[dv b l t s d p g] w fun e w' => e = .returned (.agg #[.bool (isC s t), .bool (rF s t), .bool (rR s t), .bool (rW s t), .bool (rD s t)]) ∧ Grown w w' := by
  have ht := type_even t t0 t1
  unfold dv
  go_enter Tryz.func82, Tryz.ntmps82
  go_wp2
  generalize hW : (w.alloc (.cells #[.int .u32 b, .int .u32 l, .int .i64 t, .bool s, .int .i64 d, .bool p, .bool g] 28)).alloc (.cells #[.bool false, .bool false, .bool false, .bool false, .bool false] 152) = W
  have hz : W.heap.size = w.heap.size + 2 := by rw [← hW]; simp
  have hS0 : boxS w.heap.size s t W.drew := by rw [← hW]; constructor <;> simp [go_sem]
  have hSm : ∀ L, boxS w.heap.size s t (md W L) := fun L => by
    unfold md mp
    rw [← hW]
    constructor <;> simp [go_sem]
  refine wp_region_held (S := boxS w.heap.size s t) (by kernel_rfl) ?_
  refine wpAnyH_take (i := 1) (v := .agg #[.bool false, .int .i64 0]) rfl (by kernel_rfl) (by kernel_rfl) (by kernel_rfl) (fun _ _ _ h => h) (Or.inl ⟨by rfl, by intro w _; go_simp⟩) hS0 ?_
  refine wpAnyH_take (i := 2) (v := .agg #[.bool false, .bool false, .bool true, .bool false, .bool false]) rfl (by kernel_rfl) (by kernel_rfl) (by kernel_rfl) (fun _ _ _ h => h) (Or.inl ⟨by rfl, by intro w _; go_simp⟩) hS0 ?_
  refine wpAnyH_take (i := 4) (v := .agg #[.bool false, .int .i64 2]) rfl (by kernel_rfl) (by kernel_rfl) (by kernel_rfl) (fun _ _ _ h => h) (Or.inl ⟨by rfl, by intro w _; go_simp⟩) hS0 ?_
  refine wpAnyH_take (i := 5) (v := .agg #[.bool false, .bool false, .bool true, .bool true, .bool false]) rfl (by kernel_rfl) (by kernel_rfl) (by kernel_rfl) (fun _ _ _ h => h) (Or.inl ⟨by rfl, by intro w _; go_simp⟩) hS0 ?_
  refine wpAnyH_take (i := 7) (v := .agg #[.bool false, .int .i64 4]) rfl (by kernel_rfl) (by kernel_rfl) (by kernel_rfl) (fun _ _ _ h => h) (Or.inl ⟨by rfl, by intro w _; go_simp⟩) hS0 ?_
  refine wpAnyH_take (i := 8) (v := .agg #[.bool false, .bool false, .bool true, .bool false, .bool true]) rfl (by kernel_rfl) (by kernel_rfl) (by kernel_rfl) (fun _ _ _ h => h) (Or.inl ⟨by rfl, by intro w _; go_simp⟩) hS0 ?_
  refine wpAnyH_take (i := 10) (v := .agg #[.bool false, .int .i64 6]) rfl (by kernel_rfl) (by kernel_rfl) (by kernel_rfl) (fun _ _ _ h => h) (Or.inl ⟨by rfl, by intro w _; go_simp⟩) hS0 ?_
  refine wpAnyH_take (i := 11) (v := .agg #[.bool false, .bool false, .bool true, .bool true, .bool true]) rfl (by kernel_rfl) (by kernel_rfl) (by kernel_rfl) (fun _ _ _ h => h) (Or.inl ⟨by rfl, by intro w _; go_simp⟩) hS0 ?_
  refine wpAnyH_take (i := 13) (v := .agg #[.bool false, .int .i64 8]) rfl (by kernel_rfl) (by kernel_rfl) (by kernel_rfl) (fun _ _ _ h => h) (Or.inl ⟨by rfl, by intro w _; go_simp⟩) hS0 ?_
  refine wpAnyH_take (i := 14) (v := .agg #[.bool true, .bool false, .bool false, .bool false, .bool false]) rfl (by kernel_rfl) (by kernel_rfl) (by kernel_rfl) (fun _ _ _ h => h) (Or.inl ⟨by rfl, by intro w _; go_simp⟩) hS0 ?_
  refine wpAnyH_take (i := 16) (v := .agg #[.bool false, .int .i64 10]) rfl (by kernel_rfl) (by kernel_rfl) (by kernel_rfl) (fun _ _ _ h => h) (Or.inl ⟨by rfl, by intro w _; go_simp⟩) hS0 ?_
  refine wpAnyH_take (i := 17) (v := .agg #[.bool true, .bool false, .bool true, .bool false, .bool false]) rfl (by kernel_rfl) (by kernel_rfl) (by kernel_rfl) (fun _ _ _ h => h) (Or.inl ⟨by rfl, by intro w _; go_simp⟩) hS0 ?_
  refine wpAnyH_take (i := 19) (v := .agg #[.bool false, .int .i64 12]) rfl (by kernel_rfl) (by kernel_rfl) (by kernel_rfl) (fun _ _ _ h => h) (Or.inl ⟨by rfl, by intro w _; go_simp⟩) hS0 ?_
  refine wpAnyH_take (i := 20) (v := .agg #[.bool true, .bool true, .bool false, .bool false, .bool false]) rfl (by kernel_rfl) (by kernel_rfl) (by kernel_rfl) (fun _ _ _ h => h) (Or.inl ⟨by rfl, by intro w _; go_simp⟩) hS0 ?_
  refine wpAnyH_take (i := 22) (v := .agg #[.bool false, .int .i64 14]) rfl (by kernel_rfl) (by kernel_rfl) (by kernel_rfl) (fun _ _ _ h => h) (Or.inl ⟨by rfl, by intro w _; go_simp⟩) hS0 ?_
  refine wpAnyH_take (i := 23) (v := .agg #[.bool true, .bool true, .bool true, .bool false, .bool false]) rfl (by kernel_rfl) (by kernel_rfl) (by kernel_rfl) (fun _ _ _ h => h) (Or.inl ⟨by rfl, by intro w _; go_simp⟩) hS0 ?_
  refine wpAnyH_take (i := 26) (v := .pointer (some ⟨w.heap.size, 3, none⟩)) rfl (by kernel_rfl) (by kernel_rfl) (by kernel_rfl) (fun _ _ _ h => h) (Or.inl ⟨by rfl, by intro w _; go_simp⟩) hS0 ?_
  refine wpAnyH_take (i := 27) (v := .bool s) rfl (by kernel_rfl) (by kernel_rfl) (by kernel_rfl) (fun _ _ _ h => h) (Or.inl ⟨by rfl, by intro w hS; have h1 := hS.1; go_simp⟩) hS0 ?_
  refine wpAnyH_take (i := 28) (v := .pointer (some ⟨w.heap.size, 2, none⟩)) rfl (by kernel_rfl) (by kernel_rfl) (by kernel_rfl) (fun _ _ _ h => h) (Or.inl ⟨by rfl, by intro w _; go_simp⟩) hS0 ?_
  refine wpAnyH_take (i := 29) (v := .int .i64 t) rfl (by kernel_rfl) (by kernel_rfl) (by kernel_rfl) (fun _ _ _ h => h) (Or.inl ⟨by rfl, by intro w hS; have h1 := hS.2; go_simp⟩) hS0 ?_
  refine wpAnyH_take (i := 30) (v := .int .i64 (t - t % 2)) rfl (by kernel_rfl) (by kernel_rfl) (by kernel_rfl) (fun _ _ _ h => h) (Or.inl ⟨by rfl, by intro w _; go_simp⟩) hS0 ?_
  refine wpAnyH_take (i := 31) (v := .agg #[.bool s, .int .i64 (t - t % 2)]) rfl (by kernel_rfl) (by kernel_rfl) (by kernel_rfl) (fun _ _ _ h => h) (Or.inl ⟨by rfl, by intro w _; go_simp⟩) hS0 ?_
  refine wpAnyH_all (rs := [0]) (by kernel_rfl) (by simp) ?_
  intro i hi
  rw [List.mem_singleton] at hi
  subst hi
  refine step_make (w := W) rfl rfl rfl rfl ⟨hSm [], ?_⟩
  refine ins_all (P := Tryz.prog) (md' := .any) _ W hSm enR ixR ffR _ (by kernel_rfl) rfl (by decide) (by decide) (by kernel_rfl) (by kernel_rfl) ?_ 3 _ rfl ?_
  · intro i hi L K hL hK
    simp [ixR] at hi
    rcases hi with rfl | rfl | rfl | rfl | rfl | rfl | rfl | rfl
    all_goals exact step_ins rfl rfl rfl rfl (by kernel_rfl) (by kernel_rfl) (by kernel_rfl) hL hK
  · intro L hL hLn
    have hlk : num (if s then none else look L (t - t % 2)) = kindN s t := by
      rw [look_same (L' := LR) hL hLn (by decide)]
      exact look_R s t
    have hv := look_md W L s (t - t % 2)
    rw [hlk, rv_R] at hv
    unfold kv at hv
    refine wpAnyH_take (i := 25) (v := .map (some W.heap.size)) rfl (by kernel_rfl) (by kernel_rfl) (by kernel_rfl) (fun _ _ _ h => h) (Or.inl ⟨by rfl, by intro w _; go_simp⟩) (hSm L) ?_
    refine wpAnyH_all (rs := [32]) (by kernel_rfl) (by simp) ?_
    intro i hi
    rw [List.mem_singleton] at hi
    subst hi
    refine step_look rfl rfl rfl (by kernel_rfl) (by kernel_rfl) hv ⟨hSm L, ?_⟩
    refine wpAnyH_all (rs := [33]) (by kernel_rfl) (by simp) ?_
    intro i hi
    rw [List.mem_singleton] at hi
    subst hi
    unfold md mp
    have hgM : ∀ {x : World}, Grown w x → Grown w (x.alloc (Obj.map (ents 0 L).toArray L.length)) := fun h => Grown.allocMap h _ _
    generalize (Obj.map (ents 0 L).toArray L.length) = M at hgM
    clear hSm hS0
    have hst : (Instr.storeAt 152 (.pointer (some ⟨w.heap.size + 1, 0, none⟩)) (.agg #[.bool (isC s t), .bool (rF s t), .bool (rR s t), .bool (rW s t), .bool (rD s t)])).run Tryz.prog (W.alloc M).drew = .ok () (((w.alloc (.cells #[.int .u32 b, .int .u32 l, .int .i64 t, .bool s, .int .i64 d, .bool p, .bool g] 28)).alloc (.cells #[.bool (isC s t), .bool (rF s t), .bool (rR s t), .bool (rW s t), .bool (rD s t)] 152)).alloc M).drew := by
      rw [← hW]
      exact st5 w _ M (isC s t) (rF s t) (rR s t) (rW s t) (rD s t)
    refine step_store rfl rfl rfl rfl (by kernel_rfl) (by kernel_rfl) hst ⟨?_, ?_⟩
    · constructor <;> simp [go_sem]
    clear hst hv
    refine wpAnyH_done (by kernel_rfl) ?_ _
    refine then_act (a := { tmps := #[.agg #[.int .u32 b, .int .u32 l, .int .i64 t, .bool s, .int .i64 d, .bool p, .bool g], .pointer (some ⟨w.heap.size, 0, none⟩), .pointer (some ⟨w.heap.size + 1, 0, none⟩), .map (some W.heap.size), .agg #[.bool false, .int .i64 0], .agg #[.bool false, .bool false, .bool true, .bool false, .bool false], .agg #[.bool false, .int .i64 2], .agg #[.bool false, .bool false, .bool true, .bool true, .bool false], .agg #[.bool false, .int .i64 4], .agg #[.bool false, .bool false, .bool true, .bool false, .bool true], .agg #[.bool false, .int .i64 6], .agg #[.bool false, .bool false, .bool true, .bool true, .bool true], .agg #[.bool false, .int .i64 8], .agg #[.bool true, .bool false, .bool false, .bool false, .bool false], .agg #[.bool false, .int .i64 10], .agg #[.bool true, .bool false, .bool true, .bool false, .bool false], .agg #[.bool false, .int .i64 12], .agg #[.bool true, .bool true, .bool false, .bool false, .bool false], .agg #[.bool false, .int .i64 14], .agg #[.bool true, .bool true, .bool true, .bool false, .bool false], .map (some W.heap.size), .pointer (some ⟨w.heap.size, 3, none⟩), .bool s, .pointer (some ⟨w.heap.size, 2, none⟩), .int .i64 t, .int .i64 (t - t % 2), .agg #[.bool s, .int .i64 (t - t % 2)], .agg #[.bool (isC s t), .bool (rF s t), .bool (rR s t), .bool (rW s t), .bool (rD s t)]], defers := [] }) (by kernel_rfl) ?_
    have HM : Hid (∀ {x : World}, Grown w x → Grown w (x.alloc M)) := hgM
    clear hW hz hgM hL hLn hlk
    go_wp2
    exact bodyPost_ret (v := .agg #[.bool (isC s t), .bool (rF s t), .bool (rR s t), .bool (rW s t), .bool (rD s t)]) (by simp [results, Tryz.results82, go_sem]) rfl ⟨rfl, Grown.drew (HM.out (Grown.alloc (Grown.alloc (Grown.refl _) _ _) _ _))⟩
end Go.Proofs.YtmmnnafjikilpaaGreat.Sg

/- Contracts of what a segment lets: Reach, Fit, Code and what they stand on. -/
namespace Go.Proofs.YtmmnnafjikilpaaGreat.Sg
open Go.ChangeShapes Go.WideShapes Go.ChangeAt Go.RowKit
set_option linter.unusedVariables false

theorem Grown.holds {W w' : World} (h : Grown W w') {p : Addr} {v : Value} (hv : W.cell? p = some v) : w'.cell? p = some v := by
  have hb : p.block < W.heap.size := by
    rcases Nat.lt_or_ge p.block W.heap.size with h | h
    · exact h
    · exfalso
      simp [World.cell?, Array.getElem?_eq_none h] at hv
  rw [Grown.cell h hb, hv]

theorem canReach_any (n : Int) (w : World) : Calls Tryz.prog 83 #[.int .i64 n] w fun e w' => e = .returned (.bool (szB n)) ∧ w' = w := by
  go_enter Tryz.func83, Tryz.ntmps83
  go_wp2
  all_goals go_ret
  all_goals exact ⟨ret_bool (by simp [szB, *]), rfl⟩

theorem topOf_any (b l t : Int) (s : Bool) (d : Int) (p g : Bool) (w : World) : Calls Tryz.prog 84 #[.agg #[.int .u32 b, .int .u32 l, .int .i64 t, .bool s, .int .i64 d, .bool p, .bool g]] w fun e w' => e = .returned (.int .u64 (topB g)) ∧ Grown w w' := by
  go_enter Tryz.func84, Tryz.ntmps84
  go_wp2
  all_goals go_ret
  all_goals exact ⟨ret_int (by simp [topB, *]), Grown.alloc (Grown.refl _) _ _⟩


end Go.Proofs.YtmmnnafjikilpaaGreat.Sg

/- Contracts of what a segment lets: Reach. -/
namespace Go.Proofs.YtmmnnafjikilpaaGreat.Sg
open Go.ChangeShapes Go.WideShapes Go.ChangeAt Go.RowKit
set_option linter.unusedVariables false

theorem szB_of {n : Int} (h : szB n = true) : n = 1 ∨ n = 2 ∨ n = 4 ∨ n = 8 := by simpa [szB, or_assoc] using h


set_option maxHeartbeats 2000000 in
theorem reach_no (b l t : Int) (s : Bool) (d : Int) (p g : Bool) (off size : Int) (wr : Bool) (w : World) (C F R Wt D : Bool) (o0 : 0 ≤ off) (o1 : off < 4294967296) (l0 : 0 ≤ l) (l1 : l < 4294967296) (hs : szB size = false)
    (H : Hid (∀ w : World, Calls Tryz.prog 82 #[.agg #[.int .u32 b, .int .u32 l, .int .i64 t, .bool s, .int .i64 d, .bool p, .bool g]] w fun e w' => e = .returned (.agg #[.bool C, .bool F, .bool R, .bool Wt, .bool D]) ∧ Grown w w')) :
    Calls Tryz.prog 65 #[.agg #[.int .u32 b, .int .u32 l, .int .i64 t, .bool s, .int .i64 d, .bool p, .bool g], .int .u32 off, .int .i64 size, .bool wr] w fun e w' => e = .returned (.bool (reachX wr R Wt p D g l off size)) ∧ Grown w w' := by
  go_enter Tryz.func65, Tryz.ntmps65
  go_wp2_with fail
  refine (H.out _).mono ?_; rintro e w1 ⟨rfl, hg⟩
  have c0 : w1.cell? ⟨w.heap.size, 0, none⟩ = some (.int .u32 b) := Grown.holds hg (by simp [go_sem])
  have c1 : w1.cell? ⟨w.heap.size, 1, none⟩ = some (.int .u32 l) := Grown.holds hg (by simp [go_sem])
  have c2 : w1.cell? ⟨w.heap.size, 2, none⟩ = some (.int .i64 t) := Grown.holds hg (by simp [go_sem])
  have c3 : w1.cell? ⟨w.heap.size, 3, none⟩ = some (.bool s) := Grown.holds hg (by simp [go_sem])
  have c4 : w1.cell? ⟨w.heap.size, 4, none⟩ = some (.int .i64 d) := Grown.holds hg (by simp [go_sem])
  have c5 : w1.cell? ⟨w.heap.size, 5, none⟩ = some (.bool p) := Grown.holds hg (by simp [go_sem])
  have c6 : w1.cell? ⟨w.heap.size, 6, none⟩ = some (.bool g) := Grown.holds hg (by simp [go_sem])
  have hlt : w.heap.size < w1.heap.size := by have := hg.2.2; simp at this; omega
  have hG : Grown w w1 := Grown.trans (Grown.alloc (Grown.refl _) _ _) hg
  cases wr <;> cases R <;> cases Wt <;> cases p
  all_goals
    go_wp2_with (first | (go_at_call 83; refine (canReach_any _ _).mono ?_; rintro e w' ⟨rfl, hw⟩; replace hw := hw.symm; subst hw) | (go_at_call 84; refine (topOf_any _ _ _ _ _ _ _ _).mono ?_; rintro e w' ⟨rfl, hg2⟩))
    all_goals go_ret
    all_goals exact ⟨ret_bool (by simp [reachX, hs]), Grown.alloc hG _ _⟩


set_option maxHeartbeats 2000000 in
theorem reach_yes (b l t : Int) (s : Bool) (d : Int) (p g : Bool) (off size : Int) (wr : Bool) (w : World) (C F R Wt D : Bool) (o0 : 0 ≤ off) (o1 : off < 4294967296) (l0 : 0 ≤ l) (l1 : l < 4294967296) (hs : szB size = true) (z0 : 1 ≤ size) (z1 : size ≤ 8)
    (H : Hid (∀ w : World, Calls Tryz.prog 82 #[.agg #[.int .u32 b, .int .u32 l, .int .i64 t, .bool s, .int .i64 d, .bool p, .bool g]] w fun e w' => e = .returned (.agg #[.bool C, .bool F, .bool R, .bool Wt, .bool D]) ∧ Grown w w')) :
    Calls Tryz.prog 65 #[.agg #[.int .u32 b, .int .u32 l, .int .i64 t, .bool s, .int .i64 d, .bool p, .bool g], .int .u32 off, .int .i64 size, .bool wr] w fun e w' => e = .returned (.bool (reachX wr R Wt p D g l off size)) ∧ Grown w w' := by
  go_enter Tryz.func65, Tryz.ntmps65
  go_wp2_with fail
  refine (H.out _).mono ?_; rintro e w1 ⟨rfl, hg⟩
  have c0 : w1.cell? ⟨w.heap.size, 0, none⟩ = some (.int .u32 b) := Grown.holds hg (by simp [go_sem])
  have c1 : w1.cell? ⟨w.heap.size, 1, none⟩ = some (.int .u32 l) := Grown.holds hg (by simp [go_sem])
  have c2 : w1.cell? ⟨w.heap.size, 2, none⟩ = some (.int .i64 t) := Grown.holds hg (by simp [go_sem])
  have c3 : w1.cell? ⟨w.heap.size, 3, none⟩ = some (.bool s) := Grown.holds hg (by simp [go_sem])
  have c4 : w1.cell? ⟨w.heap.size, 4, none⟩ = some (.int .i64 d) := Grown.holds hg (by simp [go_sem])
  have c5 : w1.cell? ⟨w.heap.size, 5, none⟩ = some (.bool p) := Grown.holds hg (by simp [go_sem])
  have c6 : w1.cell? ⟨w.heap.size, 6, none⟩ = some (.bool g) := Grown.holds hg (by simp [go_sem])
  have hlt : w.heap.size < w1.heap.size := by have := hg.2.2; simp at this; omega
  have hG : Grown w w1 := Grown.trans (Grown.alloc (Grown.refl _) _ _) hg
  cases wr <;> cases R <;> cases Wt <;> cases p <;> cases D
  all_goals
    go_wp2_with (first | (go_at_call 83; refine (canReach_any _ _).mono ?_; rintro e w' ⟨rfl, hw⟩; replace hw := hw.symm; subst hw) | (go_at_call 84; refine (topOf_any _ _ _ _ _ _ _ _).mono ?_; rintro e w' ⟨rfl, hg2⟩))
    all_goals go_ret
    all_goals refine ⟨ret_bool ?_, ?_⟩
    all_goals first
      | exact Grown.alloc hG _ _
      | exact Grown.trans (Grown.alloc hG _ _) hg2
      | (simp [reachX, hs]; done)
      | (simp [reachX, hs]; omega)
      | (simp_all [reachX]; done)
      | (simp_all [reachX]; omega)


theorem reach_any (b l t : Int) (s : Bool) (d : Int) (p g : Bool) (off size : Int) (wr : Bool) (w : World) (t0 : -9223372036854775808 ≤ t) (t1 : t < 9223372036854775808) (o0 : 0 ≤ off) (o1 : off < 4294967296) (l0 : 0 ≤ l) (l1 : l < 4294967296) :
    Calls Tryz.prog 65 #[.agg #[.int .u32 b, .int .u32 l, .int .i64 t, .bool s, .int .i64 d, .bool p, .bool g], .int .u32 off, .int .i64 size, .bool wr] w fun e w' => e = .returned (.bool (reachB l t s p g off size wr)) ∧ Grown w w' := by
  have H : Hid _ := fun w => rights_any b l t s d p g w t0 t1
  cases hs : szB size with
  | false => exact reach_no b l t s d p g off size wr w _ _ _ _ _ o0 o1 l0 l1 hs H
  | true => exact reach_yes b l t s d p g off size wr w _ _ _ _ _ o0 o1 l0 l1 hs (by have := szB_of hs; omega) (by have := szB_of hs; omega) H

end Go.Proofs.YtmmnnafjikilpaaGreat.Sg

/- A region that draws its order, guards too: ONE proof for each operation, whatever the order.  A family of final states 'A t'; the state at hand agrees with 'A t' on every slot whose writers have all run. -/
namespace Go.OrdG
open Go
set_option linter.unusedVariables false

def neat (ops : Array Oper) : Bool :=
  (List.range ops.size).all fun i => match ops[i]? with
    | none => true
    | some o => (match o.guard with
        | none => true
        | some (g, _) => match (ops[g]?).bind (·.dst) with
          | none => false
          | some s => (List.range ops.size).all fun j => ((ops[j]?).bind (·.dst)) != some s || o.after.any fun e => Region.binds .any e && e.on == j) && (o.after.all fun e => !Region.binds .any e || decide (e.on < i)) && o.op.operands.all fun x => match x with
      | .tmp s => (List.range ops.size).all fun j => ((ops[j]?).bind (·.dst)) != some s || o.after.any fun e => Region.binds .any e && e.on == j
      | _ => true

def Agr (ops : Array Oper) (listed : Array Bool) (a b : Act) : Prop :=
  a.defers = b.defers ∧ a.tmps.size = b.tmps.size ∧ ∀ d, (∀ j o, ops[j]? = some o → o.dst = some d → listed.getD j false = true) → a.tmps[d]? = b.tmps[d]?

theorem Agr.refl (ops : Array Oper) (listed : Array Bool) (a : Act) : Agr ops listed a a := ⟨rfl, rfl, fun _ _ => rfl⟩

def Shut (ops : Array Oper) (listed : Array Bool) : Prop :=
  ∀ (j : Nat) (o : Oper), ops[j]? = some o → listed.getD j false = true → ∀ e ∈ o.after, Region.binds .any e = true → listed.getD e.on false = true

def Qn : Exit → Act → World → Prop := fun _ _ _ => False

theorem neat_spec {ops : Array Oper} (h : neat ops = true) {i : Nat} {o : Oper} (ho : ops[i]? = some o) :
    (∀ g b, o.guard = some (g, b) → ∃ s, (ops[g]?).bind (·.dst) = some s ∧ ∀ j oj, ops[j]? = some oj → oj.dst = some s → ∃ e ∈ o.after, Region.binds .any e = true ∧ e.on = j) ∧ (∀ e ∈ o.after, Region.binds .any e = true → e.on < i) ∧ ∀ s, Operand.tmp s ∈ o.op.operands → ∀ j oj, ops[j]? = some oj → oj.dst = some s → ∃ e ∈ o.after, Region.binds .any e = true ∧ e.on = j := by
  have hlt : i < ops.size := (Array.getElem?_eq_some_iff.1 ho).1
  have h1 := List.all_eq_true.1 h i (List.mem_range.2 hlt)
  rw [ho] at h1
  simp only [Bool.and_eq_true] at h1
  obtain ⟨⟨h2, h3⟩, h4⟩ := h1
  refine ⟨fun g b hg => ?_, fun e he hb => ?_, fun s hs j oj hj hd => ?_⟩
  · rw [hg] at h2
    simp only at h2
    cases hs : (ops[g]?).bind (·.dst) with
    | none => rw [hs] at h2; cases h2
    | some s =>
      rw [hs] at h2
      simp only at h2
      refine ⟨s, rfl, fun j oj hj hd => ?_⟩
      have h6 := List.all_eq_true.1 h2 j (List.mem_range.2 (Array.getElem?_eq_some_iff.1 hj).1)
      simp only [hj, Option.bind_some, hd, bne_self_eq_false, Bool.false_or] at h6
      obtain ⟨k, hk, h7⟩ := Array.any_eq_true.1 h6
      simp only [Bool.and_eq_true, beq_iff_eq] at h7
      exact ⟨_, Array.getElem_mem hk, h7.1, h7.2⟩
  · have := Array.all_eq_true_iff_forall_mem.1 h3 e he
    simpa [hb] using this
  · have h5 := Array.all_eq_true_iff_forall_mem.1 h4 (.tmp s) hs
    have h6 := List.all_eq_true.1 h5 j (List.mem_range.2 (Array.getElem?_eq_some_iff.1 hj).1)
    simp only [hj, Option.bind_some, hd, bne_self_eq_false, Bool.false_or] at h6
    obtain ⟨k, hk, h7⟩ := Array.any_eq_true.1 h6
    simp only [Bool.and_eq_true, beq_iff_eq] at h7
    exact ⟨_, Array.getElem_mem hk, h7.1, h7.2⟩

theorem put_tr {a b : Act} {dst : Option Tmp} {u v : Value} (hs : a.tmps.size = b.tmps.size) (h : b.put dst u = b.put dst v) : a.put dst u = a.put dst v := by
  cases dst with
  | none => rfl
  | some d =>
    by_cases hd : d < b.tmps.size
    · have h1 : (b.tmps.setIfInBounds d u)[d]? = (b.tmps.setIfInBounds d v)[d]? := congrArg (fun x : Act => x.tmps[d]?) h
      rw [Array.getElem?_setIfInBounds_self_of_lt hd, Array.getElem?_setIfInBounds_self_of_lt hd] at h1
      rw [Option.some.inj h1]
    · have : ∀ z, a.tmps.setIfInBounds d z = a.tmps := fun z => Array.setIfInBounds_eq_of_size_le (by rw [hs]; exact Nat.le_of_not_lt hd)
      show ({ a with tmps := _ } : Act) = { a with tmps := _ }
      rw [this, this]

theorem put_defers_ne {b : Act} {dst : Option Tmp} {d : Deferred} {v : Value} (h : ({ b with defers := d :: b.defers } : Act).put dst undef = b.put dst v) : False := by
  have h1 := congrArg (fun x : Act => x.defers.length) h
  cases dst <;> simp [Act.put] at h1

/-- From the final state to the state at hand. -/
theorem wp_tr {P : Program} {o : Oper} {a b : Act} {w : World} {R : Value → World → Prop} {Q : Exit → Act → World → Prop}
    (he : execOp a.eval o = execOp b.eval o) (hs : a.tmps.size = b.tmps.size)
    (h : o.wp P b w (fun a' w' => ∃ v, a' = b.put o.dst v ∧ R v w') Qn) : o.wp P a w (fun a' w' => ∃ v, a' = a.put o.dst v ∧ R v w') Q := by
  unfold Oper.wp at *
  rw [he]
  have nl : ¬ LetsOut Qn := fun ⟨_, _, h⟩ => h
  generalize (execOp b.eval o).run P w = r at *
  cases r with
  | ok n w' =>
    cases n <;> simp only [Oper.upon] at h ⊢
    case value v => obtain ⟨u, e, hr⟩ := h; exact ⟨u, put_tr hs e, hr⟩
    case skip => obtain ⟨u, e, hr⟩ := h; exact ⟨u, put_tr hs e, hr⟩
    case defer d => obtain ⟨u, e, hr⟩ := h; exact (put_defers_ne e).elim
    case enter f args =>
      refine Calls.mono h (fun e w'' hh => ?_)
      cases e with
      | returned v => obtain ⟨u, e, hr⟩ := hh; exact ⟨u, put_tr hs e, hr⟩
      | panicked c => exact hh.elim
      | outgrown => exact (nl hh).elim
    case row r args =>
      refine Rows.mono h (fun v w'' hh => ?_)
      obtain ⟨u, e, hr⟩ := hh; exact ⟨u, put_tr hs e, hr⟩
  | halt x w' => cases x <;> simp only [Oper.upon] at h ⊢ <;> exact h.elim

theorem getD_tf {l : Array Bool} {i : Nat} (h : i < l.size) (h1 : l.getD i true = false) : l.getD i false = false := by
  simp [Array.getD, h] at *; exact h1

section
variable {P : Program} {ops : Array Oper} {Q : Exit → Act → World → Prop} {τ : Type} (A : τ → Act) (I : τ → Array Bool → World → Prop)

theorem all_listed (hn : neat ops = true) {listed : Array Bool} (hz : listed.size = ops.size) (hr : Region.ready .any ops listed = []) : ∀ i, i < ops.size → listed.getD i false = true := by
  intro i
  induction i using Nat.strongRecOn with
  | _ i ih =>
    intro hi
    have ho : ops[i]? = some ops[i] := Array.getElem?_eq_getElem hi
    by_cases hl : listed.getD i true = false
    · have : i ∈ Region.ready .any ops listed := mem_ready.2 ⟨hl, _, ho, fun e he hb => by
        have := (neat_spec hn ho).2.1 e he hb
        exact ih _ this (by omega)⟩
      rw [hr] at this
      cases this
    · have hi' : i < listed.size := by omega
      simp [Array.getD, hi'] at hl ⊢
      exact hl

theorem wpAny_free (hn : neat ops = true) (hs : Region.noSelect ops = true)
    (hwa : ∀ (t : τ) (i : Nat) (o : Oper), ops[i]? = some o → Region.wanted o (yielded ops (A t).tmps) = true)
    (step : ∀ (i : Nat) (o : Oper), ops[i]? = some o → ∀ (t : τ) (listed : Array Bool) (w : World), listed.size = ops.size → Shut ops listed → listed.getD i false = false → I t listed w →
      (∀ e ∈ o.after, Region.binds .any e = true → listed.getD e.on false = true) →
      o.wp P (A t) w (fun a' w' => ∃ v, a' = (A t).put o.dst v ∧ ∃ t', (∀ d, o.dst = some d → (A t').tmps[d]? = some v) ∧ Agr ops listed (A t) (A t') ∧ I t' (listed.setIfInBounds i true) w') Qn)
    (done : ∀ (t : τ) (listed : Array Bool) (w : World), (∀ i, i < ops.size → listed.getD i false = true) → I t listed w → Q .normal (A t) w) :
    ∀ (fuel : Nat) (listed : Array Bool) (a : Act) (w : World), listed.size = ops.size → listed.toList.count false ≤ fuel → Shut ops listed → (∃ t, Agr ops listed a (A t) ∧ I t listed w) → wpAny P .any ops Q fuel listed a w := by
  have fin : ∀ (listed : Array Bool) (a : Act) (w : World), listed.size = ops.size → (∃ t, Agr ops listed a (A t) ∧ I t listed w) → Region.ready .any ops listed = [] → Q .normal a w := by
    rintro listed a w hz ⟨t, ⟨g1, g2, g3⟩, hI⟩ hr
    have hall := all_listed hn hz hr
    have e : a = A t := by
      have ht : a.tmps = (A t).tmps := Array.ext_getElem? fun d => g3 d fun j o hj _ => hall j (Array.getElem?_eq_some_iff.1 hj).1
      cases ha : a with
      | mk x y => cases hb : A t with
        | mk x' y' => rw [ha, hb] at ht g1; simp only at ht g1; rw [ht, g1]
    rw [e]
    exact done t listed w hall hI
  intro fuel
  induction fuel with
  | zero =>
    intro listed a w hz hc hS hI
    have hr : Region.ready .any ops listed = [] := by
      cases hr : Region.ready .any ops listed with
      | nil => rfl
      | cons i l =>
        have hi : i ∈ Region.ready .any ops listed := by rw [hr]; simp
        obtain ⟨h1, o, ho, _⟩ := mem_ready.1 hi
        have hlt : i < listed.size := by rw [hz]; exact (Array.getElem?_eq_some_iff.1 ho).1
        have hm : false ∈ listed.toList := by
          simp [Array.getD, hlt] at h1
          rw [← h1]
          simp
        have := List.count_pos_iff.2 hm
        omega
    exact ⟨hr, fin listed a w hz hI hr⟩
  | succ fuel ih =>
    intro listed a w hz hc hS hI
    refine ⟨fin listed a w hz hI, fun i hi => ?_⟩
    obtain ⟨t, ⟨g1, g2, g3⟩, hI⟩ := hI
    obtain ⟨h1, o, ho, hb⟩ := mem_ready.1 hi
    have hlt : i < ops.size := (Array.getElem?_eq_some_iff.1 ho).1
    have h1' := getD_tf (by omega) h1
    obtain ⟨n1, n2, n3⟩ := neat_spec hn ho
    have he : execOp a.eval o = execOp (A t).eval o := execOp_congr o (fun cs b => Region.noSelect_spec hs i o cs b ho) fun x hx => by
      cases x with
      | tmp s =>
        have := g3 s fun j oj hj hd => by
          obtain ⟨e, he, hbe, rfl⟩ := n3 s hx j oj hj hd
          exact hb e he hbe
        show a.tmps.getD s undef = (A t).tmps.getD s undef
        rw [Array.getD_eq_getD_getElem?, Array.getD_eq_getD_getElem?, this]
      | _ => rfl
    have hw := step i o ho t listed w hz hS h1' hI hb
    have hw' := wp_tr (Q := Q) (a := a) he g2 hw
    unfold wpOp
    rw [ho]
    have hwant : Region.wanted o (yielded ops a.tmps) = true := by
      rw [← hwa t i o ho]
      unfold Region.wanted
      cases hg : o.guard with
      | none => rfl
      | some gb =>
        obtain ⟨g, b⟩ := gb
        obtain ⟨s, hs1, hs2⟩ := n1 g b hg
        have := g3 s fun j oj hj hd => by
          obtain ⟨e, he, hbe, rfl⟩ := hs2 j oj hj hd
          exact hb e he hbe
        show (yielded ops a.tmps g == some b) = (yielded ops (A t).tmps g == some b)
        unfold yielded
        rw [hs1]
        simp only [Option.bind_some, this]
    simp only [hwant, if_true]
    left
    refine Oper.wp_mono ?_ hw'
    rintro a' w' ⟨v, rfl, t', hv, ⟨q1, q2, q3⟩, hI'⟩
    refine ih _ _ _ (by simpa using hz) ?_ ?_ ⟨t', ⟨?_, ?_, ?_⟩, hI'⟩
    · have hl : listed.toList[i]? = some false := by
        have : i < listed.size := by omega
        simp [Array.getD, this] at h1
        simp [this, h1]
      have hm := List.count_set (a := true) (b := false) (l := listed.toList) (i := i) (by simp; omega)
      rw [Array.toList_setIfInBounds]
      have h3 : listed.toList[i]'(by simp; omega) = false := by
        rw [List.getElem?_eq_some_iff] at hl; exact hl.2
      rw [hm, h3]
      have h4 := List.count_pos_iff.2 (List.mem_of_getElem? hl)
      simp only [beq_self_eq_true, if_true]
      have : (true == false) = false := rfl
      rw [this]
      simp only [Bool.false_eq_true, if_false]
      omega
    · intro j oj hj hl e he hbe
      by_cases hij : i = j
      · subst hij
        rw [ho] at hj
        obtain rfl := Option.some.inj hj
        exact getD_set_true (hb e he hbe)
      · rw [getD_set_ne false hij] at hl
        exact getD_set_true (hS j oj hj hl e he hbe)
    · rw [← q1, ← g1]; cases o.dst <;> rfl
    · rw [← q2, ← g2]; cases o.dst <;> simp [Act.put]
    · intro d hd
      by_cases hod : o.dst = some d
      · rw [hod]
        have h5 := hv d hod
        rw [h5]
        have : d < a.tmps.size := by rw [g2, q2]; exact (Array.getElem?_eq_some_iff.1 h5).1
        exact Array.getElem?_setIfInBounds_self_of_lt this
      · have hpre : ∀ j oj, ops[j]? = some oj → oj.dst = some d → listed.getD j false = true := fun j oj hj hdj => by
          have h6 := hd j oj hj hdj
          have hij : i ≠ j := by
            rintro rfl
            rw [ho] at hj
            obtain rfl := Option.some.inj hj
            exact hod hdj
          rwa [getD_set_ne false hij] at h6
        have : (a.put o.dst v).tmps[d]? = a.tmps[d]? := by
          cases hdst : o.dst with
          | none => rfl
          | some z => exact Array.getElem?_setIfInBounds_ne (fun e => hod (by rw [hdst, e]))
        rw [this, g3 d hpre, q3 d hpre]

/-- A region that draws its order, by one proof for each operation. -/
theorem wp_region_free {id : Nat} {a : Act} {w : World} (hm : P.follows .mixedOrders = true) (hn : neat ops = true) (hs : Region.noSelect ops = true) (t0 : τ)
    (hwa : ∀ (t : τ) (i : Nat) (o : Oper), ops[i]? = some o → Region.wanted o (yielded ops (A t).tmps) = true)
    (h0 : Agr ops (Array.replicate ops.size false) a (A t0)) (hI : I t0 (Array.replicate ops.size false) { w with drawn := w.drawn + 1 })
    (done : ∀ (t : τ) (listed : Array Bool) (w : World), (∀ i, i < ops.size → listed.getD i false = true) → I t listed w → Q .normal (A t) w)
    (step : ∀ (i : Nat) (o : Oper), ops[i]? = some o → ∀ (t : τ) (listed : Array Bool) (w : World), listed.size = ops.size → Shut ops listed → listed.getD i false = false → I t listed w →
      (∀ e ∈ o.after, Region.binds .any e = true → listed.getD e.on false = true) →
      o.wp P (A t) w (fun a' w' => ∃ v, a' = (A t).put o.dst v ∧ ∃ t', (∀ d, o.dst = some d → (A t').tmps[d]? = some v) ∧ Agr ops listed (A t) (A t') ∧ I t' (listed.setIfInBounds i true) w') Qn) :
    (Code.region id ops true).wp P Q a w :=
  wp_region_any hm (wpAny_free A I hn hs hwa step done _ _ _ _ (by simp) (by simp) (fun j o hj hl => by
    have : (Array.replicate ops.size false).getD j false = false := by simp [Array.getD]
    rw [this] at hl; cases hl) ⟨t0, h0, hI⟩)
end

def puts : List Oper → List Value → Act → Act
  | o :: os, v :: vs, a => puts os vs (a.put o.dst v)
  | _, _, a => a

theorem puts_size : ∀ (os : List Oper) (vs : List Value) (a : Act), (puts os vs a).tmps.size = a.tmps.size ∧ (puts os vs a).defers = a.defers
  | [], _, a => ⟨rfl, rfl⟩
  | _ :: _, [], a => ⟨rfl, rfl⟩
  | o :: os, v :: vs, a => by
    have := puts_size os vs (a.put o.dst v)
    refine ⟨this.1.trans ?_, this.2.trans ?_⟩ <;> cases o.dst <;> simp [Act.put]

theorem put_get_ne {a : Act} {x : Option Tmp} {v : Value} {d : Nat} (h : x ≠ some d) : (a.put x v).tmps[d]? = a.tmps[d]? := by
  cases x with
  | none => rfl
  | some z => exact Array.getElem?_setIfInBounds_ne (fun e => h (by rw [e]))

theorem puts_get_ne {d : Nat} : ∀ (os : List Oper) (vs : List Value) (a : Act), (∀ o ∈ os, o.dst ≠ some d) → (puts os vs a).tmps[d]? = a.tmps[d]?
  | [], _, a, _ => rfl
  | _ :: _, [], a, _ => rfl
  | o :: os, v :: vs, a, h => (puts_get_ne os vs _ (fun o ho => h o (List.mem_cons_of_mem _ ho))).trans (put_get_ne (h o (by simp)))

theorem puts_agree {d : Nat} : ∀ (os : List Oper) (us vs : List Value) (a b : Act), us.length = vs.length → a.tmps.size = b.tmps.size → a.tmps[d]? = b.tmps[d]? →
    (∀ (j : Nat) (o : Oper), os[j]? = some o → o.dst = some d → us[j]? = vs[j]?) → (puts os us a).tmps[d]? = (puts os vs b).tmps[d]?
  | [], _, _, a, b, _, _, h, _ => h
  | o :: os, [], [], a, b, _, _, h, _ => h
  | o :: os, u :: us, v :: vs, a, b, hl, hs, h, hv => by
    refine puts_agree os us vs _ _ (by simpa using hl) (by cases o.dst <;> simp [Act.put, hs]) ?_ (fun j o' hj hd => by simpa using hv (j + 1) o' (by simpa using hj) hd)
    by_cases hd : o.dst = some d
    · have e := hv 0 o rfl hd
      simp only [List.getElem?_cons_zero, Option.some.injEq] at e
      rw [hd, e]
      by_cases hb : d < b.tmps.size
      · show (a.tmps.setIfInBounds d v)[d]? = (b.tmps.setIfInBounds d v)[d]?
        rw [Array.getElem?_setIfInBounds_self_of_lt hb, Array.getElem?_setIfInBounds_self_of_lt (by rw [hs]; exact hb)]
      · show (a.tmps.setIfInBounds d v)[d]? = (b.tmps.setIfInBounds d v)[d]?
        rw [Array.setIfInBounds_eq_of_size_le (Nat.le_of_not_lt hb), Array.setIfInBounds_eq_of_size_le (by rw [hs]; exact Nat.le_of_not_lt hb)]
        exact h
    · rw [put_get_ne hd, put_get_ne hd]; exact h

def once : List Oper → Nat → Bool
  | [], _ => true
  | o :: os, n => (match o.dst with | none => true | some d => decide (d < n) && os.all fun p => p.dst != some d) && once os n

theorem puts_get {d : Nat} {v : Value} {n : Nat} : ∀ (os : List Oper) (vs : List Value) (a : Act) (i : Nat) (o : Oper), once os n = true → a.tmps.size = n → os[i]? = some o → o.dst = some d → vs[i]? = some v → (puts os vs a).tmps[d]? = some v
  | [], _, a, i, o, _, _, ho, _, _ => by simp at ho
  | _ :: _, [], a, i, o, _, _, _, _, hv => by simp at hv
  | p :: os, u :: vs, a, 0, o, h1, hs, ho, hd, hv => by
    simp only [List.getElem?_cons_zero, Option.some.injEq] at ho hv
    subst ho; subst hv
    simp only [once, hd, Bool.and_eq_true, decide_eq_true_eq] at h1
    show (puts os vs (a.put p.dst u)).tmps[d]? = _
    rw [puts_get_ne os vs _ (fun o ho => by have := List.all_eq_true.1 h1.1.2 o ho; simpa using this), hd]
    exact Array.getElem?_setIfInBounds_self_of_lt (by rw [hs]; exact h1.1.1)
  | p :: os, u :: vs, a, i + 1, o, h1, hs, ho, hd, hv => by
    simp only [once, Bool.and_eq_true] at h1
    exact puts_get os vs _ i o h1.2 (by cases p.dst <;> simp [Act.put, hs]) (by simpa using ho) hd (by simpa using hv)

def Each (S : Nat → Oper → Prop) : List Oper → Nat → Prop
  | [], _ => True
  | o :: os, k => S k o ∧ Each S os (k + 1)

theorem Each.get {S : Nat → Oper → Prop} : ∀ (os : List Oper) (k : Nat), Each S os k → ∀ i o, os[i]? = some o → S (k + i) o
  | [], _, _, i, o, h => by simp at h
  | p :: os, k, h, 0, o, ho => by simp only [List.getElem?_cons_zero, Option.some.injEq] at ho; exact ho ▸ h.1
  | p :: os, k, h, i + 1, o, ho => by
    have := Each.get os (k + 1) h.2 i o (by simpa using ho)
    rwa [show k + 1 + i = k + (i + 1) by omega] at this

/-- What is asked of one operation. 'K' is a letter: the walk ends at 'K (..put ..) ..'. -/
def Step1 {τ : Type} (P : Program) (ops : Array Oper) (vals : τ → List Value) (B : τ → Act) (I : τ → Array Bool → World → Prop) (i : Nat) (o : Oper) : Prop :=
  ∀ (t : τ) (listed : Array Bool) (w : World), listed.size = ops.size → Shut ops listed → listed.getD i false = false → I t listed w →
    (∀ e ∈ o.after, Region.binds .any e = true → listed.getD e.on false = true) →
    ∀ K : Act → World → Prop, (∀ v w', (∃ t', (vals t')[i]? = some v ∧ (∀ j, listed.getD j false = true → (vals t)[j]? = (vals t')[j]?) ∧ I t' (listed.setIfInBounds i true) w') → K ((B t).put o.dst v) w') →
      (∀ w', I t (listed.setIfInBounds i true) w' → K (B t) w') → o.wp P (B t) w K Qn

theorem region_vals {τ : Type} {P : Program} {ops : Array Oper} {Q : Exit → Act → World → Prop} {id : Nat} {a : Act} {w : World} (vals : τ → List Value) (I : τ → Array Bool → World → Prop) (t0 : τ) {B : τ → Act}
    (hm : P.follows .mixedOrders = true) (hn : neat ops = true) (hs : Region.noSelect ops = true) (h1 : once ops.toList a.tmps.size = true) (hv : ∀ t, (vals t).length = ops.size)
    (hB : ∀ t, puts ops.toList (vals t) a = B t) (hwa : ∀ t, (ops.all fun o => Region.wanted o (yielded ops (B t).tmps)) = true) (hI : I t0 (Array.replicate ops.size false) { w with drawn := w.drawn + 1 })
    (step : Each (Step1 P ops vals B I) ops.toList 0)
    (done : ∀ (t : τ) (listed : Array Bool) (w : World), (∀ i, i < ops.size → listed.getD i false = true) → I t listed w → Q .normal (B t) w) :
    (Code.region id ops true).wp P Q a w := by
  have sz : ∀ t, (B t).tmps.size = a.tmps.size ∧ (B t).defers = a.defers := fun t => by rw [← hB t]; exact puts_size _ _ _
  refine wp_region_free B I hm hn hs t0 (fun t i o ho => Array.all_eq_true_iff_forall_mem.1 (hwa t) o (Array.mem_of_getElem? ho)) ⟨(sz t0).2.symm, (sz t0).1.symm, fun d hd => ?_⟩ hI done ?_
  · rw [← hB t0, puts_get_ne]
    intro o ho hod
    obtain ⟨j, hj⟩ := List.getElem?_of_mem ho
    have := hd j o (by simpa using hj) hod
    simp [Array.getD] at this
  · intro i o ho t listed w hz hS hl hI' hb
    have st := Each.get _ _ step i o (by simpa using ho)
    rw [Nat.zero_add] at st
    have main : ∀ v w', (∃ t', (vals t')[i]? = some v ∧ (∀ j, listed.getD j false = true → (vals t)[j]? = (vals t')[j]?) ∧ I t' (listed.setIfInBounds i true) w') → ∃ v', (B t).put o.dst v = (B t).put o.dst v' ∧ ∃ t', (∀ d, o.dst = some d → (B t').tmps[d]? = some v') ∧ Agr ops listed (B t) (B t') ∧ I t' (listed.setIfInBounds i true) w' := ?_
    · refine st t listed w hz hS hl hI' hb _ main (fun w' h => ?_)
      have hi : i < (vals t).length := by rw [hv]; exact (Array.getElem?_eq_some_iff.1 ho).1
      have e1 : (vals t)[i]? = some (vals t)[i] := List.getElem?_eq_getElem hi
      obtain ⟨v', e, h'⟩ := main _ w' ⟨t, e1, fun _ _ => rfl, h⟩
      refine ⟨v', ?_, h'⟩
      rw [← e]
      cases hd : o.dst with
      | none => rfl
      | some d =>
        have g := puts_get (v := (vals t)[i]) ops.toList (vals t) a i o h1 rfl (by simpa using ho) hd e1
        rw [hB t] at g
        have : (B t).tmps.setIfInBounds d (vals t)[i] = (B t).tmps := Array.ext_getElem? fun j => by
          by_cases hj : d = j
          · subst hj
            rw [Array.getElem?_setIfInBounds_self_of_lt (Array.getElem?_eq_some_iff.1 g).1, g]
          · exact Array.getElem?_setIfInBounds_ne hj
        unfold Act.put
        simp only [this]
    rintro v w' ⟨t', e1, e2, hI2⟩
    refine ⟨v, rfl, t', fun d hd => ?_, ⟨(sz t).2.trans (sz t').2.symm, (sz t).1.trans (sz t').1.symm, fun d hd => ?_⟩, hI2⟩
    · rw [← hB t']
      exact puts_get ops.toList _ a i o h1 rfl (by simpa using ho) hd e1
    · rw [← hB t, ← hB t']
      refine puts_agree _ _ _ _ _ ((hv t).trans (hv t').symm) rfl rfl (fun j o' hj hd' => e2 j (hd j o' (by simpa using hj) hd'))

def edge (ops : Array Oper) (j i : Nat) : Bool := match ops[j]? with
  | some o => o.after.any fun e => Region.binds .any e && e.on == i
  | none => false

theorem shut_no {ops : Array Oper} {listed : Array Bool} {i j : Nat} (hS : Shut ops listed) (hl : listed.getD i false = false) (h : edge ops j i = true) : listed.getD j false = false := by
  unfold edge at h
  cases ho : ops[j]? with
  | none => rw [ho] at h; cases h
  | some o =>
    rw [ho] at h
    obtain ⟨k, hk, h7⟩ := Array.any_eq_true.1 h
    simp only [Bool.and_eq_true, beq_iff_eq] at h7
    cases hj : listed.getD j false with
    | false => rfl
    | true =>
      have := hS j o ho hj _ (Array.getElem_mem hk) h7.1
      rw [h7.2, hl] at this
      cases this

theorem on_of {o : Oper} {listed : Array Bool} {i : Nat} (hb : ∀ e ∈ o.after, Region.binds .any e = true → listed.getD e.on false = true) (h : (o.after.any fun e => Region.binds .any e && e.on == i) = true) : listed.getD i false = true := by
  obtain ⟨k, hk, h7⟩ := Array.any_eq_true.1 h
  simp only [Bool.and_eq_true, beq_iff_eq] at h7
  have := hb _ (Array.getElem_mem hk) h7.1
  rwa [h7.2] at this

theorem getD_self {listed : Array Bool} {i n : Nat} (hz : listed.size = n) (hi : i < n) : (listed.setIfInBounds i true).getD i false = true := by
  simp [Array.getD, hz, hi]

theorem vals_one {l l' : List Value} {i : Nat} {u : Value} {listed : Array Bool} (e : l.set i u = l') (hi : listed.getD i false = false) (j : Nat) (hj : listed.getD j false = true) : l[j]? = l'[j]? := by
  rw [← e]
  by_cases h1 : i = j
  · rw [← h1, hi] at hj; cases hj
  rw [List.getElem?_set_ne h1]
end Go.OrdG

/- A region that draws its order and may end in a panic: OrdG's law, with what is asked of a panic's world. -/
namespace Go.OrdP
open Go Go.OrdG
set_option linter.unusedVariables false

def Qr (R : List PanicEntry → World → Prop) : Exit → Act → World → Prop := fun e _ w => match e with
  | .panic c => R c w
  | _ => False

/-- From the final state to the state at hand. -/
theorem wp_tr {P : Program} {o : Oper} {a b : Act} {w : World} {R : Value → World → Prop} {Q : Exit → Act → World → Prop} {Rp : List PanicEntry → World → Prop} (hR : ∀ c w', Rp c w' → Q (.panic c) a w')
    (he : execOp a.eval o = execOp b.eval o) (hs : a.tmps.size = b.tmps.size)
    (h : o.wp P b w (fun a' w' => ∃ v, a' = b.put o.dst v ∧ R v w') (Qr Rp)) : o.wp P a w (fun a' w' => ∃ v, a' = a.put o.dst v ∧ R v w') Q := by
  unfold Oper.wp at *
  rw [he]
  have nl : ¬ LetsOut (Qr Rp) := fun ⟨_, _, h⟩ => h
  generalize (execOp b.eval o).run P w = r at *
  cases r with
  | ok n w' =>
    cases n <;> simp only [Oper.upon] at h ⊢
    case value v => obtain ⟨u, e, hr⟩ := h; exact ⟨u, put_tr hs e, hr⟩
    case skip => obtain ⟨u, e, hr⟩ := h; exact ⟨u, put_tr hs e, hr⟩
    case defer d => obtain ⟨u, e, hr⟩ := h; exact (put_defers_ne e).elim
    case enter f args =>
      refine Calls.mono h (fun e w'' hh => ?_)
      cases e with
      | returned v => obtain ⟨u, e, hr⟩ := hh; exact ⟨u, put_tr hs e, hr⟩
      | panicked c => exact hR c _ hh
      | outgrown => exact (nl hh).elim
    case row r args =>
      refine Rows.mono h (fun v w'' hh => ?_)
      obtain ⟨u, e, hr⟩ := hh; exact ⟨u, put_tr hs e, hr⟩
  | halt x w' => cases x <;> simp only [Oper.upon] at h ⊢ <;> first | exact h.elim | exact hR _ _ h

section
variable {P : Program} {ops : Array Oper} {Q : Exit → Act → World → Prop} {Rp : List PanicEntry → World → Prop} {τ : Type} (A : τ → Act) (I : τ → Array Bool → World → Prop)

theorem wpAny_free (hR : ∀ t c a' w', a'.defers = (A t).defers → Rp c w' → Q (.panic c) a' w') (hn : neat ops = true) (hs : Region.noSelect ops = true)
    (hwa : ∀ (t : τ) (i : Nat) (o : Oper), ops[i]? = some o → Region.wanted o (yielded ops (A t).tmps) = true)
    (step : ∀ (i : Nat) (o : Oper), ops[i]? = some o → ∀ (t : τ) (listed : Array Bool) (w : World), listed.size = ops.size → OrdG.Shut ops listed → listed.getD i false = false → I t listed w →
      (∀ e ∈ o.after, Region.binds .any e = true → listed.getD e.on false = true) →
      o.wp P (A t) w (fun a' w' => ∃ v, a' = (A t).put o.dst v ∧ ∃ t', (∀ d, o.dst = some d → (A t').tmps[d]? = some v) ∧ Agr ops listed (A t) (A t') ∧ I t' (listed.setIfInBounds i true) w') (Qr Rp))
    (done : ∀ (t : τ) (listed : Array Bool) (w : World), (∀ i, i < ops.size → listed.getD i false = true) → I t listed w → Q .normal (A t) w) :
    ∀ (fuel : Nat) (listed : Array Bool) (a : Act) (w : World), listed.size = ops.size → listed.toList.count false ≤ fuel → OrdG.Shut ops listed → (∃ t, Agr ops listed a (A t) ∧ I t listed w) → wpAny P .any ops Q fuel listed a w := by
  have fin : ∀ (listed : Array Bool) (a : Act) (w : World), listed.size = ops.size → (∃ t, Agr ops listed a (A t) ∧ I t listed w) → Region.ready .any ops listed = [] → Q .normal a w := by
    rintro listed a w hz ⟨t, ⟨g1, g2, g3⟩, hI⟩ hr
    have hall := all_listed hn hz hr
    have e : a = A t := by
      have ht : a.tmps = (A t).tmps := Array.ext_getElem? fun d => g3 d fun j o hj _ => hall j (Array.getElem?_eq_some_iff.1 hj).1
      cases ha : a with
      | mk x y => cases hb : A t with
        | mk x' y' => rw [ha, hb] at ht g1; simp only at ht g1; rw [ht, g1]
    rw [e]
    exact done t listed w hall hI
  intro fuel
  induction fuel with
  | zero =>
    intro listed a w hz hc hS hI
    have hr : Region.ready .any ops listed = [] := by
      cases hr : Region.ready .any ops listed with
      | nil => rfl
      | cons i l =>
        have hi : i ∈ Region.ready .any ops listed := by rw [hr]; simp
        obtain ⟨h1, o, ho, _⟩ := mem_ready.1 hi
        have hlt : i < listed.size := by rw [hz]; exact (Array.getElem?_eq_some_iff.1 ho).1
        have hm : false ∈ listed.toList := by
          simp [Array.getD, hlt] at h1
          rw [← h1]
          simp
        have := List.count_pos_iff.2 hm
        omega
    exact ⟨hr, fin listed a w hz hI hr⟩
  | succ fuel ih =>
    intro listed a w hz hc hS hI
    refine ⟨fin listed a w hz hI, fun i hi => ?_⟩
    obtain ⟨t, ⟨g1, g2, g3⟩, hI⟩ := hI
    obtain ⟨h1, o, ho, hb⟩ := mem_ready.1 hi
    have hlt : i < ops.size := (Array.getElem?_eq_some_iff.1 ho).1
    have h1' := getD_tf (by omega) h1
    obtain ⟨n1, n2, n3⟩ := neat_spec hn ho
    have he : execOp a.eval o = execOp (A t).eval o := execOp_congr o (fun cs b => Region.noSelect_spec hs i o cs b ho) fun x hx => by
      cases x with
      | tmp s =>
        have := g3 s fun j oj hj hd => by
          obtain ⟨e, he, hbe, rfl⟩ := n3 s hx j oj hj hd
          exact hb e he hbe
        show a.tmps.getD s undef = (A t).tmps.getD s undef
        rw [Array.getD_eq_getD_getElem?, Array.getD_eq_getD_getElem?, this]
      | _ => rfl
    have hw := step i o ho t listed w hz hS h1' hI hb
    have hw' := wp_tr (Q := Q) (a := a) (fun c w' => hR t c a w' g1) he g2 hw
    unfold wpOp
    rw [ho]
    have hwant : Region.wanted o (yielded ops a.tmps) = true := by
      rw [← hwa t i o ho]
      unfold Region.wanted
      cases hg : o.guard with
      | none => rfl
      | some gb =>
        obtain ⟨g, b⟩ := gb
        obtain ⟨s, hs1, hs2⟩ := n1 g b hg
        have := g3 s fun j oj hj hd => by
          obtain ⟨e, he, hbe, rfl⟩ := hs2 j oj hj hd
          exact hb e he hbe
        show (yielded ops a.tmps g == some b) = (yielded ops (A t).tmps g == some b)
        unfold yielded
        rw [hs1]
        simp only [Option.bind_some, this]
    simp only [hwant, if_true]
    left
    refine Oper.wp_mono ?_ hw'
    rintro a' w' ⟨v, rfl, t', hv, ⟨q1, q2, q3⟩, hI'⟩
    refine ih _ _ _ (by simpa using hz) ?_ ?_ ⟨t', ⟨?_, ?_, ?_⟩, hI'⟩
    · have hl : listed.toList[i]? = some false := by
        have : i < listed.size := by omega
        simp [Array.getD, this] at h1
        simp [this, h1]
      have hm := List.count_set (a := true) (b := false) (l := listed.toList) (i := i) (by simp; omega)
      rw [Array.toList_setIfInBounds]
      have h3 : listed.toList[i]'(by simp; omega) = false := by
        rw [List.getElem?_eq_some_iff] at hl; exact hl.2
      rw [hm, h3]
      have h4 := List.count_pos_iff.2 (List.mem_of_getElem? hl)
      simp only [beq_self_eq_true, if_true]
      have : (true == false) = false := rfl
      rw [this]
      simp only [Bool.false_eq_true, if_false]
      omega
    · intro j oj hj hl e he hbe
      by_cases hij : i = j
      · subst hij
        rw [ho] at hj
        obtain rfl := Option.some.inj hj
        exact getD_set_true (hb e he hbe)
      · rw [getD_set_ne false hij] at hl
        exact getD_set_true (hS j oj hj hl e he hbe)
    · rw [← q1, ← g1]; cases o.dst <;> rfl
    · rw [← q2, ← g2]; cases o.dst <;> simp [Act.put]
    · intro d hd
      by_cases hod : o.dst = some d
      · rw [hod]
        have h5 := hv d hod
        rw [h5]
        have : d < a.tmps.size := by rw [g2, q2]; exact (Array.getElem?_eq_some_iff.1 h5).1
        exact Array.getElem?_setIfInBounds_self_of_lt this
      · have hpre : ∀ j oj, ops[j]? = some oj → oj.dst = some d → listed.getD j false = true := fun j oj hj hdj => by
          have h6 := hd j oj hj hdj
          have hij : i ≠ j := by
            rintro rfl
            rw [ho] at hj
            obtain rfl := Option.some.inj hj
            exact hod hdj
          rwa [getD_set_ne false hij] at h6
        have : (a.put o.dst v).tmps[d]? = a.tmps[d]? := by
          cases hdst : o.dst with
          | none => rfl
          | some z => exact Array.getElem?_setIfInBounds_ne (fun e => hod (by rw [hdst, e]))
        rw [this, g3 d hpre, q3 d hpre]

theorem wp_region_free {id : Nat} {a : Act} {w : World} (hm : P.follows .mixedOrders = true) (hR : ∀ t c a' w', a'.defers = (A t).defers → Rp c w' → Q (.panic c) a' w') (hn : neat ops = true) (hs : Region.noSelect ops = true) (t0 : τ)
    (hwa : ∀ (t : τ) (i : Nat) (o : Oper), ops[i]? = some o → Region.wanted o (yielded ops (A t).tmps) = true)
    (h0 : Agr ops (Array.replicate ops.size false) a (A t0)) (hI : I t0 (Array.replicate ops.size false) { w with drawn := w.drawn + 1 })
    (done : ∀ (t : τ) (listed : Array Bool) (w : World), (∀ i, i < ops.size → listed.getD i false = true) → I t listed w → Q .normal (A t) w)
    (step : ∀ (i : Nat) (o : Oper), ops[i]? = some o → ∀ (t : τ) (listed : Array Bool) (w : World), listed.size = ops.size → OrdG.Shut ops listed → listed.getD i false = false → I t listed w →
      (∀ e ∈ o.after, Region.binds .any e = true → listed.getD e.on false = true) →
      o.wp P (A t) w (fun a' w' => ∃ v, a' = (A t).put o.dst v ∧ ∃ t', (∀ d, o.dst = some d → (A t').tmps[d]? = some v) ∧ Agr ops listed (A t) (A t') ∧ I t' (listed.setIfInBounds i true) w') (Qr Rp)) :
    (Code.region id ops true).wp P Q a w :=
  wp_region_any hm (wpAny_free A I hR hn hs hwa step done _ _ _ _ (by simp) (by simp) (fun j o hj hl => by
    have : (Array.replicate ops.size false).getD j false = false := by simp [Array.getD]
    rw [this] at hl; cases hl) ⟨t0, h0, hI⟩)
end

/-- What is asked of one operation. 'K' is a letter: the walk ends at 'K (..put ..) ..'. -/
def Step1 {τ : Type} (Rp : List PanicEntry → World → Prop) (P : Program) (ops : Array Oper) (vals : τ → List Value) (B : τ → Act) (I : τ → Array Bool → World → Prop) (i : Nat) (o : Oper) : Prop :=
  ∀ (t : τ) (listed : Array Bool) (w : World), listed.size = ops.size → OrdG.Shut ops listed → listed.getD i false = false → I t listed w →
    (∀ e ∈ o.after, Region.binds .any e = true → listed.getD e.on false = true) →
    ∀ K : Act → World → Prop, (∀ v w', (∃ t', (vals t')[i]? = some v ∧ (∀ j, listed.getD j false = true → (vals t)[j]? = (vals t')[j]?) ∧ I t' (listed.setIfInBounds i true) w') → K ((B t).put o.dst v) w') →
      (∀ w', I t (listed.setIfInBounds i true) w' → K (B t) w') → o.wp P (B t) w K (Qr Rp)

theorem region_vals {τ : Type} {P : Program} {ops : Array Oper} {Q : Exit → Act → World → Prop} {id : Nat} {a : Act} {w : World} (Rp : List PanicEntry → World → Prop) (vals : τ → List Value) (I : τ → Array Bool → World → Prop) (t0 : τ) {B : τ → Act}
    (hR : ∀ c a' w', a'.defers = a.defers → Rp c w' → Q (.panic c) a' w') (hm : P.follows .mixedOrders = true) (hn : neat ops = true) (hs : Region.noSelect ops = true) (h1 : once ops.toList a.tmps.size = true) (hv : ∀ t, (vals t).length = ops.size)
    (hB : ∀ t, puts ops.toList (vals t) a = B t) (hwa : ∀ t, (ops.all fun o => Region.wanted o (yielded ops (B t).tmps)) = true) (hI : I t0 (Array.replicate ops.size false) { w with drawn := w.drawn + 1 })
    (step : Each (Step1 Rp P ops vals B I) ops.toList 0)
    (done : ∀ (t : τ) (listed : Array Bool) (w : World), (∀ i, i < ops.size → listed.getD i false = true) → I t listed w → Q .normal (B t) w) :
    (Code.region id ops true).wp P Q a w := by
  have sz : ∀ t, (B t).tmps.size = a.tmps.size ∧ (B t).defers = a.defers := fun t => by rw [← hB t]; exact puts_size _ _ _
  refine wp_region_free (Rp := Rp) B I hm (fun t c a' w' hd => hR c a' w' (hd.trans (sz t).2)) hn hs t0 (fun t i o ho => Array.all_eq_true_iff_forall_mem.1 (hwa t) o (Array.mem_of_getElem? ho)) ⟨(sz t0).2.symm, (sz t0).1.symm, fun d hd => ?_⟩ hI done ?_
  · rw [← hB t0, puts_get_ne]
    intro o ho hod
    obtain ⟨j, hj⟩ := List.getElem?_of_mem ho
    have := hd j o (by simpa using hj) hod
    simp [Array.getD] at this
  · intro i o ho t listed w hz hS hl hI' hb
    have st := Each.get _ _ step i o (by simpa using ho)
    rw [Nat.zero_add] at st
    have main : ∀ v w', (∃ t', (vals t')[i]? = some v ∧ (∀ j, listed.getD j false = true → (vals t)[j]? = (vals t')[j]?) ∧ I t' (listed.setIfInBounds i true) w') → ∃ v', (B t).put o.dst v = (B t).put o.dst v' ∧ ∃ t', (∀ d, o.dst = some d → (B t').tmps[d]? = some v') ∧ Agr ops listed (B t) (B t') ∧ I t' (listed.setIfInBounds i true) w' := ?_
    · refine st t listed w hz hS hl hI' hb _ main (fun w' h => ?_)
      have hi : i < (vals t).length := by rw [hv]; exact (Array.getElem?_eq_some_iff.1 ho).1
      have e1 : (vals t)[i]? = some (vals t)[i] := List.getElem?_eq_getElem hi
      obtain ⟨v', e, h'⟩ := main _ w' ⟨t, e1, fun _ _ => rfl, h⟩
      refine ⟨v', ?_, h'⟩
      rw [← e]
      cases hd : o.dst with
      | none => rfl
      | some d =>
        have g := puts_get (v := (vals t)[i]) ops.toList (vals t) a i o h1 rfl (by simpa using ho) hd e1
        rw [hB t] at g
        have : (B t).tmps.setIfInBounds d (vals t)[i] = (B t).tmps := Array.ext_getElem? fun j => by
          by_cases hj : d = j
          · subst hj
            rw [Array.getElem?_setIfInBounds_self_of_lt (Array.getElem?_eq_some_iff.1 g).1, g]
          · exact Array.getElem?_setIfInBounds_ne hj
        unfold Act.put
        simp only [this]
    rintro v w' ⟨t', e1, e2, hI2⟩
    refine ⟨v, rfl, t', fun d hd => ?_, ⟨(sz t).2.trans (sz t').2.symm, (sz t).1.trans (sz t').1.symm, fun d hd => ?_⟩, hI2⟩
    · rw [← hB t']
      exact puts_get ops.toList _ a i o h1 rfl (by simpa using ho) hd e1
    · rw [← hB t, ← hB t']
      refine puts_agree _ _ _ _ _ ((hv t).trans (hv t').symm) rfl rfl (fun j o' hj hd' => e2 j (hd j o' (by simpa using hj) hd'))

theorem keep {listed : Array Bool} {i p : Nat} (hl : listed.getD p false = false) (h : i ≠ p) : (listed.setIfInBounds i true).getD p false = false := by rw [getD_set_ne false h]; exact hl
end Go.OrdP
