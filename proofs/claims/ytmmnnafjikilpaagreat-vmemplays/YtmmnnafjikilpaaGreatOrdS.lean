/- OrdG's law for a region with guarded operations that are not wanted: they are passed by. -/
import Derived.Test.YtmmnnafjikilpaaGreatVb
namespace Go.OrdS
open Go Go.OrdG
set_option linter.unusedVariables false

def un (l : Array Value) (d : Nat) : Bool := match l[d]? with
  | some (.tuple xs) => xs.isEmpty
  | _ => false
theorem un_of {o : Oper} {x : Bool} {l : Array Value} (h : (x || (match o.dst with | some d => un l d | none => false)) = true) : x = true ∨ x = false ∧ ∀ d, o.dst = some d → l[d]? = some undef := by
  cases x with
  | true => exact .inl rfl
  | false =>
    refine .inr ⟨rfl, fun d hd => ?_⟩
    rw [hd] at h
    simp only [Bool.false_or] at h
    unfold un at h
    split at h
    · rename_i xs e
      rw [e]
      have : xs = #[] := by simpa using h
      rw [this]; rfl
    · cases h

section
variable {P : Program} {ops : Array Oper} {Q : Exit → Act → World → Prop} {τ : Type} (A : τ → Act) (I : τ → Array Bool → World → Prop)

theorem wpAny_skip (hn : neat ops = true) (hs : Region.noSelect ops = true)
    (hwa : ∀ (t : τ) (i : Nat) (o : Oper), ops[i]? = some o → (Region.wanted o (yielded ops (A t).tmps) = true ∨ Region.wanted o (yielded ops (A t).tmps) = false ∧ ∀ d, o.dst = some d → (A t).tmps[d]? = some undef))
    (hsk : ∀ (t : τ) (listed : Array Bool) (w : World) (i : Nat), (∀ o, ops[i]? = some o → o.guard ≠ none) → I t listed w → I t (listed.setIfInBounds i true) w)
    (step : ∀ (i : Nat) (o : Oper), ops[i]? = some o → ∀ (t : τ) (listed : Array Bool) (w : World), Region.wanted o (yielded ops (A t).tmps) = true → listed.size = ops.size → OrdG.Shut ops listed → listed.getD i false = false → I t listed w →
      (∀ e ∈ o.after, Region.binds .any e = true → listed.getD e.on false = true) →
      o.wp P (A t) w (fun a' w' => ∃ v, a' = (A t).put o.dst v ∧ ∃ t', (∀ d, o.dst = some d → (A t').tmps[d]? = some v) ∧ Agr ops listed (A t) (A t') ∧ I t' (listed.setIfInBounds i true) w') Qn)
    (done : ∀ (t : τ) (listed : Array Bool) (w : World), (∀ i, i < ops.size → listed.getD i false = true) → I t listed w → Q .normal (A t) w) :
    ∀ (fuel : Nat) (listed : Array Bool) (a : Act) (w : World), listed.size = ops.size → listed.toList.count false ≤ fuel → OrdG.Shut ops listed → (∃ t, Agr ops listed a (A t) ∧ I t listed w) → wpAny P .any ops Q fuel listed a w := by
  have fin : ∀ (listed : Array Bool) (a : Act) (w : World), listed.size = ops.size → (∃ t, Agr ops listed a (A t) ∧ I t listed w) → Region.ready .any ops listed = [] → Q .normal a w := by
    rintro listed a w hz ⟨t, ⟨g1, g2, g3⟩, hI⟩ hr
    have hall := all_listed hn hz hr
    have e : a = A t := by
      have ht : a.tmps = (A t).tmps := Array.ext_getElem? fun d => g3 d fun j o hj _ => hall j (Array.getElem?_eq_some_iff.1 hj).1
      cases ha : a with
      | mk x y => cases hb : A t with
        | mk x' y' => rw [ha, hb] at ht g1; simp only at ht g1; rw [ht, g1]
    rw [e]
    exact done t listed w hall hI
  intro fuel
  induction fuel with
  | zero =>
    intro listed a w hz hc hS hI
    have hr : Region.ready .any ops listed = [] := by
      cases hr : Region.ready .any ops listed with
      | nil => rfl
      | cons i l =>
        have hi : i ∈ Region.ready .any ops listed := by rw [hr]; simp
        obtain ⟨h1, o, ho, _⟩ := mem_ready.1 hi
        have hlt : i < listed.size := by rw [hz]; exact (Array.getElem?_eq_some_iff.1 ho).1
        have hm : false ∈ listed.toList := by
          simp [Array.getD, hlt] at h1
          rw [← h1]
          simp
        have := List.count_pos_iff.2 hm
        omega
    exact ⟨hr, fin listed a w hz hI hr⟩
  | succ fuel ih =>
    intro listed a w hz hc hS hI
    refine ⟨fin listed a w hz hI, fun i hi => ?_⟩
    obtain ⟨t, ⟨g1, g2, g3⟩, hI⟩ := hI
    obtain ⟨h1, o, ho, hb⟩ := mem_ready.1 hi
    have hlt : i < ops.size := (Array.getElem?_eq_some_iff.1 ho).1
    have h1' := getD_tf (by omega) h1
    obtain ⟨n1, n2, n3⟩ := neat_spec hn ho
    have he : execOp a.eval o = execOp (A t).eval o := execOp_congr o (fun cs b => Region.noSelect_spec hs i o cs b ho) fun x hx => by
      cases x with
      | tmp s =>
        have := g3 s fun j oj hj hd => by
          obtain ⟨e, he, hbe, rfl⟩ := n3 s hx j oj hj hd
          exact hb e he hbe
        show a.tmps.getD s undef = (A t).tmps.getD s undef
        rw [Array.getD_eq_getD_getElem?, Array.getD_eq_getD_getElem?, this]
      | _ => rfl
    have hwe : Region.wanted o (yielded ops a.tmps) = Region.wanted o (yielded ops (A t).tmps) := by
      unfold Region.wanted
      cases hg : o.guard with
      | none => rfl
      | some gb =>
        obtain ⟨g, b⟩ := gb
        obtain ⟨s, hs1, hs2⟩ := n1 g b hg
        have := g3 s fun j oj hj hd => by
          obtain ⟨e, he, hbe, rfl⟩ := hs2 j oj hj hd
          exact hb e he hbe
        show (yielded ops a.tmps g == some b) = (yielded ops (A t).tmps g == some b)
        unfold yielded
        rw [hs1]
        simp only [Option.bind_some, this]
    have go : ∀ v w', (∃ t', (∀ d, o.dst = some d → (A t').tmps[d]? = some v) ∧ Agr ops listed (A t) (A t') ∧ I t' (listed.setIfInBounds i true) w') → wpAny P .any ops Q fuel (listed.setIfInBounds i true) (a.put o.dst v) w' := by
      rintro v w' ⟨t', hv, ⟨q1, q2, q3⟩, hI'⟩
      refine ih _ _ _ (by simpa using hz) ?_ ?_ ⟨t', ⟨?_, ?_, ?_⟩, hI'⟩
      · have hl : listed.toList[i]? = some false := by
          have : i < listed.size := by omega
          simp [Array.getD, this] at h1
          simp [this, h1]
        have hm := List.count_set (a := true) (b := false) (l := listed.toList) (i := i) (by simp; omega)
        rw [Array.toList_setIfInBounds]
        have h3 : listed.toList[i]'(by simp; omega) = false := by
          rw [List.getElem?_eq_some_iff] at hl; exact hl.2
        rw [hm, h3]
        have h4 := List.count_pos_iff.2 (List.mem_of_getElem? hl)
        simp only [beq_self_eq_true, if_true]
        have : (true == false) = false := rfl
        rw [this]
        simp only [Bool.false_eq_true, if_false]
        omega
      · intro j oj hj hl e he hbe
        by_cases hij : i = j
        · subst hij
          rw [ho] at hj
          obtain rfl := Option.some.inj hj
          exact getD_set_true (hb e he hbe)
        · rw [getD_set_ne false hij] at hl
          exact getD_set_true (hS j oj hj hl e he hbe)
      · rw [← q1, ← g1]; cases o.dst <;> rfl
      · rw [← q2, ← g2]; cases o.dst <;> simp [Act.put]
      · intro d hd
        by_cases hod : o.dst = some d
        · rw [hod]
          have h5 := hv d hod
          rw [h5]
          have : d < a.tmps.size := by rw [g2, q2]; exact (Array.getElem?_eq_some_iff.1 h5).1
          exact Array.getElem?_setIfInBounds_self_of_lt this
        · have hpre : ∀ j oj, ops[j]? = some oj → oj.dst = some d → listed.getD j false = true := fun j oj hj hdj => by
            have h6 := hd j oj hj hdj
            have hij : i ≠ j := by
              rintro rfl
              rw [ho] at hj
              obtain rfl := Option.some.inj hj
              exact hod hdj
            rwa [getD_set_ne false hij] at h6
          have : (a.put o.dst v).tmps[d]? = a.tmps[d]? := by
            cases hdst : o.dst with
            | none => rfl
            | some z => exact Array.getElem?_setIfInBounds_ne (fun e => hod (by rw [hdst, e]))
          rw [this, g3 d hpre, q3 d hpre]
    unfold wpOp
    rw [ho]
    simp only [hwe]
    rcases hwa t i o ho with hwant | ⟨hwant, hun⟩
    · have hw := step i o ho t listed w hwant hz hS h1' hI hb
      have hw' := wp_tr (Q := Q) (a := a) he g2 hw
      rw [if_pos hwant]
      left
      refine Oper.wp_mono ?_ hw'
      rintro a' w' ⟨v, rfl, h⟩
      exact go v w' h
    · rw [if_neg (by rw [hwant]; simp)]
      exact go undef w ⟨t, hun, Agr.refl _ _ _, hsk t listed w i (fun o' ho' hg => by
        rw [ho] at ho'
        obtain rfl := Option.some.inj ho'
        unfold Region.wanted at hwant
        rw [hg] at hwant
        cases hwant) hI⟩

/-- A region that draws its order, by one proof for each operation. -/
theorem wp_region_skip {id : Nat} {a : Act} {w : World} (hm : P.follows .mixedOrders = true) (hn : neat ops = true) (hs : Region.noSelect ops = true) (t0 : τ)
    (hwa : ∀ (t : τ) (i : Nat) (o : Oper), ops[i]? = some o → (Region.wanted o (yielded ops (A t).tmps) = true ∨ Region.wanted o (yielded ops (A t).tmps) = false ∧ ∀ d, o.dst = some d → (A t).tmps[d]? = some undef))
    (hsk : ∀ (t : τ) (listed : Array Bool) (w : World) (i : Nat), (∀ o, ops[i]? = some o → o.guard ≠ none) → I t listed w → I t (listed.setIfInBounds i true) w)
    (h0 : Agr ops (Array.replicate ops.size false) a (A t0)) (hI : I t0 (Array.replicate ops.size false) { w with drawn := w.drawn + 1 })
    (done : ∀ (t : τ) (listed : Array Bool) (w : World), (∀ i, i < ops.size → listed.getD i false = true) → I t listed w → Q .normal (A t) w)
    (step : ∀ (i : Nat) (o : Oper), ops[i]? = some o → ∀ (t : τ) (listed : Array Bool) (w : World), Region.wanted o (yielded ops (A t).tmps) = true → listed.size = ops.size → OrdG.Shut ops listed → listed.getD i false = false → I t listed w →
      (∀ e ∈ o.after, Region.binds .any e = true → listed.getD e.on false = true) →
      o.wp P (A t) w (fun a' w' => ∃ v, a' = (A t).put o.dst v ∧ ∃ t', (∀ d, o.dst = some d → (A t').tmps[d]? = some v) ∧ Agr ops listed (A t) (A t') ∧ I t' (listed.setIfInBounds i true) w') Qn) :
    (Code.region id ops true).wp P Q a w :=
  wp_region_any hm (wpAny_skip A I hn hs hwa hsk step done _ _ _ _ (by simp) (by simp) (fun j o hj hl => by
    have : (Array.replicate ops.size false).getD j false = false := by simp [Array.getD]
    rw [this] at hl; cases hl) ⟨t0, h0, hI⟩)
end

/-- What is asked of one operation that is wanted. -/
def Step2 {τ : Type} (P : Program) (ops : Array Oper) (vals : τ → List Value) (B : τ → Act) (I : τ → Array Bool → World → Prop) (i : Nat) (o : Oper) : Prop :=
  ∀ (t : τ) (listed : Array Bool) (w : World), Region.wanted o (yielded ops (B t).tmps) = true → listed.size = ops.size → OrdG.Shut ops listed → listed.getD i false = false → I t listed w →
    (∀ e ∈ o.after, Region.binds .any e = true → listed.getD e.on false = true) →
    ∀ K : Act → World → Prop, (∀ v w', (∃ t', (vals t')[i]? = some v ∧ (∀ j, listed.getD j false = true → (vals t)[j]? = (vals t')[j]?) ∧ I t' (listed.setIfInBounds i true) w') → K ((B t).put o.dst v) w') →
      (∀ w', I t (listed.setIfInBounds i true) w' → K (B t) w') → o.wp P (B t) w K Qn

theorem region_skip {τ : Type} {P : Program} {ops : Array Oper} {Q : Exit → Act → World → Prop} {id : Nat} {a : Act} {w : World} (vals : τ → List Value) (I : τ → Array Bool → World → Prop) (t0 : τ) {B : τ → Act}
    (hm : P.follows .mixedOrders = true) (hn : neat ops = true) (hs : Region.noSelect ops = true) (h1 : once ops.toList a.tmps.size = true) (hv : ∀ t, (vals t).length = ops.size)
    (hB : ∀ t, puts ops.toList (vals t) a = B t) (hwa : ∀ t, (ops.all fun o => Region.wanted o (yielded ops (B t).tmps) || (match o.dst with | some d => un (B t).tmps d | none => false)) = true)
    (hsk : ∀ (t : τ) (listed : Array Bool) (w : World) (i : Nat), (∀ o, ops[i]? = some o → o.guard ≠ none) → I t listed w → I t (listed.setIfInBounds i true) w) (hI : I t0 (Array.replicate ops.size false) { w with drawn := w.drawn + 1 })
    (step : Each (Step2 P ops vals B I) ops.toList 0)
    (done : ∀ (t : τ) (listed : Array Bool) (w : World), (∀ i, i < ops.size → listed.getD i false = true) → I t listed w → Q .normal (B t) w) :
    (Code.region id ops true).wp P Q a w := by
  have sz : ∀ t, (B t).tmps.size = a.tmps.size ∧ (B t).defers = a.defers := fun t => by rw [← hB t]; exact puts_size _ _ _
  refine wp_region_skip B I hm hn hs t0 (fun t i o ho => un_of (Array.all_eq_true_iff_forall_mem.1 (hwa t) o (Array.mem_of_getElem? ho))) hsk ⟨(sz t0).2.symm, (sz t0).1.symm, fun d hd => ?_⟩ hI done ?_
  · rw [← hB t0, puts_get_ne]
    intro o ho hod
    obtain ⟨j, hj⟩ := List.getElem?_of_mem ho
    have := hd j o (by simpa using hj) hod
    simp [Array.getD] at this
  · intro i o ho t listed w hwt hz hS hl hI' hb
    have st := Each.get _ _ step i o (by simpa using ho)
    rw [Nat.zero_add] at st
    have main : ∀ v w', (∃ t', (vals t')[i]? = some v ∧ (∀ j, listed.getD j false = true → (vals t)[j]? = (vals t')[j]?) ∧ I t' (listed.setIfInBounds i true) w') → ∃ v', (B t).put o.dst v = (B t).put o.dst v' ∧ ∃ t', (∀ d, o.dst = some d → (B t').tmps[d]? = some v') ∧ Agr ops listed (B t) (B t') ∧ I t' (listed.setIfInBounds i true) w' := ?_
    · refine st t listed w hwt hz hS hl hI' hb _ main (fun w' h => ?_)
      have hi : i < (vals t).length := by rw [hv]; exact (Array.getElem?_eq_some_iff.1 ho).1
      have e1 : (vals t)[i]? = some (vals t)[i] := List.getElem?_eq_getElem hi
      obtain ⟨v', e, h'⟩ := main _ w' ⟨t, e1, fun _ _ => rfl, h⟩
      refine ⟨v', ?_, h'⟩
      rw [← e]
      cases hd : o.dst with
      | none => rfl
      | some d =>
        have g := puts_get (v := (vals t)[i]) ops.toList (vals t) a i o h1 rfl (by simpa using ho) hd e1
        rw [hB t] at g
        have : (B t).tmps.setIfInBounds d (vals t)[i] = (B t).tmps := Array.ext_getElem? fun j => by
          by_cases hj : d = j
          · subst hj
            rw [Array.getElem?_setIfInBounds_self_of_lt (Array.getElem?_eq_some_iff.1 g).1, g]
          · exact Array.getElem?_setIfInBounds_ne hj
        unfold Act.put
        simp only [this]
    rintro v w' ⟨t', e1, e2, hI2⟩
    refine ⟨v, rfl, t', fun d hd => ?_, ⟨(sz t).2.trans (sz t').2.symm, (sz t).1.trans (sz t').1.symm, fun d hd => ?_⟩, hI2⟩
    · rw [← hB t']
      exact puts_get ops.toList _ a i o h1 rfl (by simpa using ho) hd e1
    · rw [← hB t, ← hB t']
      refine puts_agree _ _ _ _ _ ((hv t).trans (hv t').symm) rfl rfl (fun j o' hj hd' => e2 j (hd j o' (by simpa using hj) hd'))

end Go.OrdS
