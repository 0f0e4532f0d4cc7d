/- A region whose last operations are stores of new keys into a map, in whatever order. -/
import Derived.Test.YtmmnnafjikilpaaSegMap
namespace Go.Proofs.Ytmmnnafjikilpaa.Sg
open Go.ChangeShapes Go.WideShapes Go.ChangeAt Go.RowKit
set_option linter.unusedVariables false

theorem then_act {K : Act → World → Prop} {Q : Exit → Act → World → Prop} {a b : Act} {w : World} (e : b = a) (h : Exit.then K Q .normal a w) : Exit.then K Q .normal b w := e ▸ h

/-- Listed are those of F, but for J. -/
def lst (F : Array Bool) (J : List Nat) : Array Bool := (List.range F.size).map (fun i => F.getD i false && !J.contains i) |>.toArray

theorem lst_size (F : Array Bool) (J : List Nat) : (lst F J).size = F.size := by simp [lst]

theorem lst_get (F : Array Bool) (J : List Nat) (i : Nat) (d : Bool) (hi : i < F.size) : (lst F J).getD i d = (F.getD i false && !J.contains i) := by
  unfold lst
  simp [Array.getD, hi]

theorem lst_set (F : Array Bool) (J : List Nat) (i : Nat) (hi : i < F.size) (hF : F.getD i false = true) : (lst F J).setIfInBounds i true = lst F (J.filter (· ≠ i)) := by
  apply Array.ext
  · simp [lst]
  · intro j h1 h2
    have hj : j < F.size := by simpa [lst] using h2
    have e1 : ((lst F J).setIfInBounds i true)[j] = if i = j then true else (lst F J)[j]'(by rw [lst_size]; exact hj) := by
      rw [Array.getElem_setIfInBounds]
    rw [e1]
    have g : ∀ K : List Nat, ∀ h : j < (lst F K).size, (lst F K)[j] = (F.getD j false && !K.contains j) := fun K h => by simp [lst]
    rw [g, g]
    by_cases e : i = j
    · subst e
      simp [hF]
    · rw [if_neg e]
      have : (J.filter (· ≠ i)).contains j = J.contains j := by
        have e' : ¬ j = i := fun x => e x.symm
        simp [List.contains_eq_mem, List.mem_filter, e']
      rw [this]

theorem lst_nil (F : Array Bool) : lst F [] = F := by
  apply Array.ext
  · simp [lst]
  · intro j h1 h2
    simp [lst, Array.getElem?_eq_getElem h2]

section
variable {P : Program} {md' : Region.Mode} {ops : Array Oper} {Q : Exit → Act → World → Prop} {S : World → Prop}

theorem mem_ready {listed : Array Bool} {i : Nat} : i ∈ Region.ready md' ops listed ↔ i < ops.size ∧ listed.getD i true = false ∧ ((ops[i]?).map (·.after.all fun e => !Region.binds md' e || listed.getD e.on false)).getD false = true := by
  simp [Region.ready]

theorem ins_phase (a : Act) (w0 : World) (hS : ∀ L, S (md w0 L)) (ent : Nat → Int × Nat) (idx : List Nat) (F : Array Bool) (hsz : F.size = ops.size)
    (hkeys : ∀ i ∈ idx, ∀ j ∈ idx, (ent i).1 = (ent j).1 → i = j)
    (hF : ∀ i ∈ idx, F.getD i false = true)
    (hdep : ∀ i ∈ idx, i < ops.size ∧ ∃ o, ops[i]? = some o ∧ ∀ e ∈ o.after, Region.binds md' e = true → e.on < ops.size ∧ F.getD e.on false = true ∧ e.on ∉ idx)
    (hfin : ∀ i, i < ops.size → F.getD i false = false → ∃ o, ops[i]? = some o ∧ ((∀ j ∈ idx, ∃ e ∈ o.after, Region.binds md' e = true ∧ e.on = j) ∨ ∃ e ∈ o.after, Region.binds md' e = true ∧ e.on < ops.size ∧ F.getD e.on false = false))
    (hstep : ∀ i ∈ idx, ∀ (L : List (Int × Nat)) (K : Act → World → Prop), (∀ e ∈ L, e.1 ≠ (ent i).1) → K a (md w0 (L ++ [ent i])) → wpOp P ops Q i K a (md w0 L))
    (fuel : Nat) (hend : ∀ L : List (Int × Nat), (∀ e, e ∈ L ↔ ∃ i ∈ idx, e = ent i) → (L.map Prod.fst).Nodup → wpAnyH P md' ops Q S fuel F a (md w0 L)) :
    ∀ (n : Nat) (J : List Nat) (L : List (Int × Nat)), J.length = n → J.Nodup → (∀ i ∈ J, i ∈ idx) → (∀ e, e ∈ L ↔ ∃ i ∈ idx, i ∉ J ∧ e = ent i) → (L.map Prod.fst).Nodup → wpAnyH P md' ops Q S (fuel + n) (lst F J) a (md w0 L) := by
  intro n
  induction n with
  | zero =>
    intro J L hn hJ hJi hL hLn
    have : J = [] := List.eq_nil_of_length_eq_zero hn
    subst this
    rw [lst_nil]
    exact hend L (fun e => by rw [hL]; simp) hLn
  | succ n ih =>
    intro J L hn hJ hJi hL hLn
    have hready : ∀ i, i ∈ J → i ∈ Region.ready md' ops (lst F J) := fun i hi => by
      obtain ⟨h1, o, ho, hd⟩ := hdep i (hJi i hi)
      refine mem_ready.2 ⟨h1, ?_, ?_⟩
      · rw [lst_get _ _ _ _ (by omega)]
        simp [List.contains_eq_mem, hi]
      · rw [ho]
        simp only [Option.map_some, Option.getD_some, Array.all_eq_true_iff_forall_mem]
        intro e he
        cases hb : Region.binds md' e with
        | false => simp
        | true =>
          obtain ⟨g1, g2, g3⟩ := hd e he hb
          rw [lst_get _ _ _ _ (by omega), g2]
          have : e.on ∉ J := fun x => g3 (hJi _ x)
          simp [List.contains_eq_mem, this]
    have hJne : J ≠ [] := fun e => by rw [e] at hn; simp at hn
    refine wpAnyH_all rfl ?_ ?_
    · obtain ⟨j, hj⟩ := List.exists_mem_of_ne_nil J hJne
      exact List.ne_nil_of_mem (hready j hj)
    · intro i hi
      obtain ⟨h1, h2, h3⟩ := mem_ready.1 hi
      rw [lst_get _ _ _ _ (by omega)] at h2
      have hiJ : i ∈ J := by
        by_cases hx : i ∈ J
        · exact hx
        · exfalso
          have hFi : F.getD i false = false := by simpa [List.contains_eq_mem, hx] using h2
          obtain ⟨o, ho, hd⟩ := hfin i h1 hFi
          rw [ho] at h3
          simp only [Option.map_some, Option.getD_some, Array.all_eq_true_iff_forall_mem] at h3
          rcases hd with hd | ⟨e, he, hb, hs, hne⟩
          · obtain ⟨j, hj⟩ := List.exists_mem_of_ne_nil J hJne
            obtain ⟨e, he, hb, hon⟩ := hd j (hJi j hj)
            have := h3 e he
            rw [hb, hon, lst_get _ _ _ _ (by have := (hdep j (hJi j hj)).1; omega)] at this
            simp [List.contains_eq_mem, hj] at this
          · have := h3 e he
            rw [hb, lst_get _ _ _ _ (by omega), hne] at this
            simp at this
      refine hstep i (hJi i hiJ) L _ ?_ ⟨hS _, ?_⟩
      · intro e he
        obtain ⟨j, hj, hjn, rfl⟩ := (hL e).1 he
        intro hk
        exact hjn (by rw [hkeys j hj i (hJi i hiJ) hk]; exact hiJ)
      · rw [lst_set F J i (by omega) (hF i (hJi i hiJ))]
        have hlen : (J.filter (· ≠ i)).length = n := by
          have := List.length_erase_of_mem hiJ
          rw [hJ.erase_eq_filter] at this
          have e2 : J.filter (· != i) = J.filter (· ≠ i) := by congr 1; funext x; by_cases hx : x = i <;> simp [hx]
          rw [e2] at this
          omega
        refine ih _ _ hlen (hJ.filter _) (fun j hj => hJi j (List.mem_filter.1 hj).1) (fun e => ?_) ?_
        · rw [List.mem_append, hL]
          constructor
          · rintro (⟨j, hj, hjn, rfl⟩ | he)
            · exact ⟨j, hj, fun x => hjn (List.mem_filter.1 x).1, rfl⟩
            · exact ⟨i, hJi i hiJ, fun x => by simpa using (List.mem_filter.1 x).2, by simpa using he⟩
          · rintro ⟨j, hj, hjn, rfl⟩
            by_cases hji : j = i
            · right; rw [hji]; simp
            · left
              exact ⟨j, hj, fun x => hjn (List.mem_filter.2 ⟨x, by simpa using hji⟩), rfl⟩
        · rw [List.map_append, List.nodup_append]
          refine ⟨hLn, by simp, ?_⟩
          intro x hx y hy
          simp at hy
          subst hy
          obtain ⟨e, he, rfl⟩ := List.mem_map.1 hx
          obtain ⟨j, hj, hjn, rfl⟩ := (hL e).1 he
          intro hk
          exact hjn (by rw [hkeys j hj i (hJi i hiJ) hk]; exact hiJ)

def depB (ops : Array Oper) (md' : Region.Mode) (F : Array Bool) (idx : List Nat) : Bool :=
  idx.all fun i => decide (i < ops.size) && F.getD i false && match ops[i]? with
    | some o => o.after.all fun e => !Region.binds md' e || (decide (e.on < ops.size) && F.getD e.on false && !idx.contains e.on)
    | none => false
def finB (ops : Array Oper) (md' : Region.Mode) (F : Array Bool) (idx : List Nat) : Bool :=
  (List.range ops.size).all fun i => F.getD i false || match ops[i]? with
    | some o => (idx.all fun j => o.after.any fun e => Region.binds md' e && e.on == j) || o.after.any fun e => Region.binds md' e && decide (e.on < ops.size) && !F.getD e.on false
    | none => false

theorem ins_all (a : Act) (w0 : World) (hS : ∀ L, S (md w0 L)) (ent : Nat → Int × Nat) (idx : List Nat) (F listed : Array Bool) (hl : listed = lst F idx) (hsz : F.size = ops.size) (hnd : idx.Nodup)
    (hkeys : ∀ i ∈ idx, ∀ j ∈ idx, (ent i).1 = (ent j).1 → i = j) (hdep : depB ops md' F idx = true) (hfin : finB ops md' F idx = true)
    (hstep : ∀ i ∈ idx, ∀ (L : List (Int × Nat)) (K : Act → World → Prop), (∀ e ∈ L, e.1 ≠ (ent i).1) → K a (md w0 (L ++ [ent i])) → wpOp P ops Q i K a (md w0 L))
    (fuel n : Nat) (hn : n = fuel + idx.length) (hend : ∀ L : List (Int × Nat), (∀ e, e ∈ L ↔ e ∈ idx.map ent) → (L.map Prod.fst).Nodup → wpAnyH P md' ops Q S fuel F a (md w0 L)) : wpAnyH P md' ops Q S n listed a (md w0 []) := by
  rw [hl, hn]
  unfold depB at hdep
  rw [List.all_eq_true] at hdep
  unfold finB at hfin
  rw [List.all_eq_true] at hfin
  refine ins_phase (md' := md') a w0 hS ent idx F hsz hkeys ?_ ?_ ?_ hstep fuel ?_ idx.length idx [] rfl hnd (fun _ h => h) (fun e => by simp; intro i hi hn; exact absurd hi hn) (by simp)
  · intro i hi
    have := hdep i hi
    simp at this
    simpa using this.1.2
  · intro i hi
    have := hdep i hi
    simp only [Bool.and_eq_true, decide_eq_true_eq] at this
    obtain ⟨⟨h1, h2⟩, h3⟩ := this
    refine ⟨h1, ?_⟩
    cases ho : ops[i]? with
    | none => rw [ho] at h3; cases h3
    | some o =>
      rw [ho] at h3
      refine ⟨o, rfl, fun e he hb => ?_⟩
      simp only [Array.all_eq_true_iff_forall_mem] at h3
      have := h3 e he
      rw [hb] at this
      simp only [Bool.not_true, Bool.false_or, Bool.and_eq_true, decide_eq_true_eq] at this
      exact ⟨this.1.1, this.1.2, by simpa [List.contains_eq_mem] using this.2⟩
  · intro i hi hFi
    have := hfin i (List.mem_range.2 hi)
    rw [hFi, Bool.false_or] at this
    cases ho : ops[i]? with
    | none => rw [ho] at this; cases this
    | some o =>
      rw [ho] at this
      refine ⟨o, rfl, ?_⟩
      simp only [Bool.or_eq_true] at this
      rcases this with h | h
      · left
        intro j hj
        rw [List.all_eq_true] at h
        have := h j hj
        rw [Array.any_eq_true] at this
        obtain ⟨k, hk, hb⟩ := this
        simp at hb
        exact ⟨_, Array.getElem_mem hk, hb.1, hb.2⟩
      · right
        rw [Array.any_eq_true] at h
        obtain ⟨k, hk, hb⟩ := h
        simp only [Bool.and_eq_true, decide_eq_true_eq, Bool.not_eq_true'] at hb
        exact ⟨_, Array.getElem_mem hk, hb.1.1, hb.1.2, hb.2⟩
  · intro L hL hLn
    refine hend L (fun e => ?_) hLn
    rw [hL]
    simp [List.mem_map, eq_comm]

/-- One store as one step of the region. -/
theorem step_ins {i : Nat} {a : Act} {w0 : World} {o : Oper} {L : List (Int × Nat)} {K : Act → World → Prop} {m k v : Operand} {key : Int} {n : Nat} (ho : ops[i]? = some o) (hg : o.guard = none) (hd : o.dst = none) (hop : o.op = Op.insert 140 m k v)
    (hm : a.eval m = .map (some w0.heap.size)) (hk : a.eval k = kv false key) (hv : a.eval v = rv n) (hL : ∀ e ∈ L, e.1 ≠ key) (hK : K a (md w0 (L ++ [(key, n)]))) : wpOp Try.prog ops Q i K a (md w0 L) := by
  have hrun := put_mp w0.drew L key n hL
  have hrun' : (Instr.mapUpdate 140 (.map (some w0.heap.size)) (kv false key) (rv n)).run Try.prog (md w0 L) = .ok () (md w0 (L ++ [(key, n)])) := hrun
  refine wpOp_step ho fun K' hK' => ?_
  have hw : Region.wanted o (yielded ops a.tmps) = true := by simp [Region.wanted, hg]
  rw [if_pos hw]
  unfold Oper.wp
  simp [execOp, hop, hm, hk, hv, hrun', Result.andThen, Oper.upon]
  have hp : a.put o.dst undef = a := by rw [hd]; rfl
  rw [hp]
  exact hK' _ _ hK

theorem step_make {i : Nat} {a : Act} {w : World} {o : Oper} {K : Act → World → Prop} {M : Nat} (ho : ops[i]? = some o) (hg : o.guard = none) (hd : o.dst = some M) (hop : o.op = Op.makeMap 140 none)
    (hK : K (a.put (some M) (.map (some w.heap.size))) (md w [])) : wpOp Try.prog ops Q i K a w.drew := by
  have hmm : (Instr.makeMap 140 none).run Try.prog w.drew = .ok (.map (some w.heap.size)) (md w []) := run_makeMap (P := Try.prog) _ w.drew
  refine wpOp_step ho fun K' hK' => ?_
  have hw : Region.wanted o (yielded ops a.tmps) = true := by simp [Region.wanted, hg]
  rw [if_pos hw]
  unfold Oper.wp
  simp [execOp, hop, hmm, Result.andThen, Oper.upon]
  rw [hd]
  exact hK' _ _ hK

theorem step_put {i : Nat} {a : Act} {w : World} {o : Oper} {K : Act → World → Prop} {x : Operand} (ho : ops[i]? = some o) (hg : o.guard = none) (hop : o.op = Op.assign x)
    (hK : K (a.put o.dst (a.eval x)) w) : wpOp Try.prog ops Q i K a w := by
  refine wpOp_step ho fun K' hK' => ?_
  have hw : Region.wanted o (yielded ops a.tmps) = true := by simp [Region.wanted, hg]
  rw [if_pos hw]
  unfold Oper.wp
  simp [execOp, hop, Oper.upon]
  exact hK' _ _ hK
end

end Go.Proofs.Ytmmnnafjikilpaa.Sg
