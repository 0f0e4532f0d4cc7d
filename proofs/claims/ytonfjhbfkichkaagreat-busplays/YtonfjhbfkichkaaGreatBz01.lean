/- The bus and its devices: AluMath, Grow, OrdG. -/
import Derived.WalkKit
import Derived.ProofKit
import Derived.Laws.BitsAllLaws
import Derived.Lib.BitFns
import Derived.Test.YtonfjhbfkichkaaGreatRows
import Derived.OpenShut
import Derived.Laws.EntriesVeiled
import Derived.Deep.QuietTactic
import Derived.BigQuiet
import Derived.Lib.Tables
import Derived.Deep.RegionHeld3
import Derived.OrdersHeld
namespace Go.Proofs.YtonfjhbfkichkaaGreat
set_option linter.unusedVariables false
def tb (f : Int) (i : Nat) : Bool := f.toNat.testBit i
def flg (b : Bool) (f : Int) : Int := if b then f else 0
def setF (f k : Int) (b : Bool) : Int := (if f / k % 2 = 1 then f - k else f) + flg b k
theorem tb_ext {a b : Int} (ha : 0 ≤ a) (hb : 0 ≤ b) (h : ∀ i, tb a i = tb b i) : a = b := by
 have e : a.toNat = b.toNat := Nat.eq_of_testBit_eq h
 omega
theorem tb_high {a : Int} (h : a < 4294967296) {i : Nat} (hi : 32 ≤ i) : tb a i = false := by
 unfold tb
 apply Nat.testBit_lt_two_pow
 have : (2 : Nat) ^ 32 ≤ 2 ^ i := Nat.pow_le_pow_right (by decide) hi
 have e : (2 : Nat) ^ 32 = 4294967296 := by decide
 omega
theorem lt32_and {a b : Nat} (hb : b < 4294967296) : a &&& b < 4294967296 := Nat.and_lt_two_pow (n := 32) a hb
theorem andNot_bd {a b : Int} (a0 : 0 ≤ a) (a1 : a < 4294967296) (b0 : 0 ≤ b) (b1 : b < 4294967296) : 0 ≤ bits .andNot .u32 a b ∧ bits .andNot .u32 a b < 4294967296 := by
 rw [u32_andNot a b a0 a1 b0 b1]
 have := lt32_and (a := a.toNat) (b := 4294967295 - b.toNat) (by omega)
 omega
theorem tb_not {b : Int} (b0 : 0 ≤ b) (b1 : b < 4294967296) {i : Nat} (hi : i < 32) : tb (4294967295 - b) i = !tb b i := by
 have e : (4294967295 - b).toNat = 2 ^ 32 - (b.toNat + 1) := by
  have : (2 : Nat) ^ 32 = 4294967296 := by decide
  omega
 unfold tb
 rw [e, Nat.testBit_two_pow_sub_succ (by have : (2 : Nat) ^ 32 = 4294967296 := (by decide); omega)]
 simp [hi]
theorem tb_andNot {a b : Int} (a0 : 0 ≤ a) (a1 : a < 4294967296) (b0 : 0 ≤ b) (b1 : b < 4294967296) (i : Nat) : tb (bits .andNot .u32 a b) i = (tb a i && !tb b i) := by
 rw [u32_andNot a b a0 a1 b0 b1]
 by_cases hi : i < 32
 ·have h := tb_not b0 b1 hi
  have e : (4294967295 - b).toNat = 4294967295 - b.toNat := by omega
  unfold tb at h ⊢
  rw [e] at h
  simp [h]
 ·have h := tb_high a1 (i := i) (by omega)
  unfold tb at h ⊢
  simp [h]
theorem lay_bit (m r j i : Nat) (c : Nat) (hr : r < 2 ^ j) (hc : c < 2) : (2 ^ j * (2 * m + c) + r).testBit i = if i = j then decide (c = 1) else if i < j then r.testBit i else m.testBit (i - j - 1) := by
 rw [Nat.testBit_two_pow_mul_add _ hr]
 by_cases h1 : i < j
 ·simp [h1, Nat.ne_of_lt h1]
 ·by_cases h2 : i = j
  ·subst h2
   have : c = 0 ∨ c = 1 := by omega
   rcases this with rfl | rfl <;> simp [Nat.testBit_zero] <;> omega
  ·obtain ⟨t, rfl⟩ : ∃ t, i = j + (t + 1) := ⟨i - j - 1, by omega⟩
   have e1 : j + (t + 1) - j = t + 1 := by omega
   have e2 : j + (t + 1) - j - 1 = t := by omega
   rw [if_neg h1, if_neg h2, if_neg h1, e2, e1, Nat.testBit_succ]
   congr 1
   omega
theorem setF_nat (f j : Nat) (b : Bool) : setF (f : Int) ((2 ^ j : Nat) : Int) b = ((2 ^ j * (2 * (f / 2 ^ j / 2) + b.toNat) + f % 2 ^ j : Nat) : Int) := by
 have hd := Nat.div_add_mod f (2 ^ j)
 have hq : f / 2 ^ j = 2 * (f / 2 ^ j / 2) + f / 2 ^ j % 2 := by omega
 have hc : f / 2 ^ j % 2 = 0 ∨ f / 2 ^ j % 2 = 1 := by omega
 have e1 : ((f : Int) / ((2 ^ j : Nat) : Int) % 2) = ((f / 2 ^ j % 2 : Nat) : Int) := by
  rw [Int.natCast_emod, Int.natCast_ediv]; rfl
 unfold setF
 rw [e1]
 generalize hm : f / 2 ^ j / 2 = m at *
 generalize hr : f % 2 ^ j = r at *
 generalize hp : 2 ^ j = p at *
 generalize hqq : f / p = q at *
 rcases hc with hc | hc
 ·rw [hc] at hq ⊢
  have e2 : q = 2 * m := by omega
  rw [if_neg (by decide)]
  have e3 : f = p * (2 * m) + r := by rw [← e2]; exact hd.symm
  cases b
  ·simp only [flg, Bool.toNat_false]; rw [e3]; push_cast; simp
  ·simp only [flg, Bool.toNat_true, if_true]; rw [e3, Nat.mul_add]; push_cast; simp; omega
 ·rw [hc] at hq ⊢
  have e3 : f = p * (2 * m) + p + r := by rw [← hd, hq, Nat.mul_add]; omega
  rw [if_pos (by decide)]
  cases b
  ·simp only [flg, Bool.toNat_false]; rw [e3]; push_cast; simp; omega
  ·simp only [flg, Bool.toNat_true, if_true]; rw [e3, Nat.mul_add]; push_cast; simp
theorem tb_setF (f : Int) (f0 : 0 ≤ f) (j : Nat) (b : Bool) (i : Nat) : tb (setF f ((2 ^ j : Nat) : Int) b) i = if i = j then b else tb f i := by
 obtain ⟨n, rfl⟩ := Int.eq_ofNat_of_zero_le f0
 rw [setF_nat]
 unfold tb
 rw [Int.toNat_natCast, Int.toNat_natCast, lay_bit _ _ _ _ _ (Nat.mod_lt _ (Nat.two_pow_pos j)) (by cases b <;> decide)]
 by_cases h : i = j
 ·simp only [h, if_true]; cases b <;> rfl
 ·rw [if_neg h, if_neg h]
  have e : n = 2 ^ j * (2 * (n / 2 ^ j / 2) + n / 2 ^ j % 2) + n % 2 ^ j := by
   have hd := Nat.div_add_mod n (2 ^ j)
   have hq : 2 * (n / 2 ^ j / 2) + n / 2 ^ j % 2 = n / 2 ^ j := by omega
   rw [hq]; exact hd.symm
  have := lay_bit (n / 2 ^ j / 2) (n % 2 ^ j) j i (n / 2 ^ j % 2) (Nat.mod_lt _ (Nat.two_pow_pos j)) (Nat.mod_lt _ (by decide))
  rw [← e, if_neg h] at this
  exact this.symm
theorem tb_div (x : Int) (x0 : 0 ≤ x) (j : Nat) : tb x j = decide (x / ((2 ^ j : Nat) : Int) % 2 = 1) := by
 obtain ⟨n, rfl⟩ := Int.eq_ofNat_of_zero_le x0
 unfold tb
 rw [Int.toNat_natCast, Nat.testBit_eq_decide_div_mod_eq]
 congr 1
 rw [← Int.natCast_ediv, show (2 : Int) = ((2 : Nat) : Int) from rfl, ← Int.natCast_emod]
 simp only [eq_iff_iff]
 omega
open Go.ChangeShapes Go.WideShapes Go.ChangeAt Go.RowKit
theorem ret_int {k : IntKind} {a b : Int} (h : a = b) : Ending.returned (.int k a) = .returned (.int k b) := by rw [h]
theorem ret_bool {a b : Bool} (h : a = b) : Ending.returned (.bool a) = .returned (.bool b) := by rw [h]
theorem ret_two {k l : IntKind} {a b c d : Int} (h : a = b) (g : c = d) : Ending.returned (.tuple #[.int k a, .int l c]) = .returned (.tuple #[.int k b, .int l d]) := by rw [h, g]
end Go.Proofs.YtonfjhbfkichkaaGreat
namespace Go.OrdG
open Go
set_option linter.unusedVariables false
def neat (ops : Array Oper) : Bool :=
 (List.range ops.size).all fun i => match ops[i]? with
  | none => true
  | some o => (match o.guard with
    | none => true
    | some (g, _) => match (ops[g]?).bind (·.dst) with
     | none => false
     | some s => (List.range ops.size).all fun j => ((ops[j]?).bind (·.dst)) != some s || o.after.any fun e => Region.binds .any e && e.on == j) && (o.after.all fun e => !Region.binds .any e || decide (e.on < i)) && o.op.operands.all fun x => match x with
   | .tmp s => (List.range ops.size).all fun j => ((ops[j]?).bind (·.dst)) != some s || o.after.any fun e => Region.binds .any e && e.on == j
   | _ => true
def Agr (ops : Array Oper) (listed : Array Bool) (a b : Act) : Prop :=
 a.defers = b.defers ∧ a.tmps.size = b.tmps.size ∧ ∀ d, (∀ j o, ops[j]? = some o → o.dst = some d → listed.getD j false = true) → a.tmps[d]? = b.tmps[d]?
def Shut (ops : Array Oper) (listed : Array Bool) : Prop :=
 ∀ (j : Nat) (o : Oper), ops[j]? = some o → listed.getD j false = true → ∀ e ∈ o.after, Region.binds .any e = true → listed.getD e.on false = true
def Qn : Exit → Act → World → Prop := fun _ _ _ => False
theorem neat_spec {ops : Array Oper} (h : neat ops = true) {i : Nat} {o : Oper} (ho : ops[i]? = some o) :
  (∀ g b, o.guard = some (g, b) → ∃ s, (ops[g]?).bind (·.dst) = some s ∧ ∀ j oj, ops[j]? = some oj → oj.dst = some s → ∃ e ∈ o.after, Region.binds .any e = true ∧ e.on = j) ∧ (∀ e ∈ o.after, Region.binds .any e = true → e.on < i) ∧ ∀ s, Operand.tmp s ∈ o.op.operands → ∀ j oj, ops[j]? = some oj → oj.dst = some s → ∃ e ∈ o.after, Region.binds .any e = true ∧ e.on = j := by
 have hlt : i < ops.size := (Array.getElem?_eq_some_iff.1 ho).1
 have h1 := List.all_eq_true.1 h i (List.mem_range.2 hlt)
 rw [ho] at h1
 simp only [Bool.and_eq_true] at h1
 obtain ⟨⟨h2, h3⟩, h4⟩ := h1
 refine ⟨fun g b hg => ?_, fun e he hb => ?_, fun s hs j oj hj hd => ?_⟩
 ·rw [hg] at h2
  simp only at h2
  cases hs : (ops[g]?).bind (·.dst) with
  | none => rw [hs] at h2; cases h2
  | some s =>
   rw [hs] at h2
   simp only at h2
   refine ⟨s, rfl, fun j oj hj hd => ?_⟩
   have h6 := List.all_eq_true.1 h2 j (List.mem_range.2 (Array.getElem?_eq_some_iff.1 hj).1)
   simp only [hj, Option.bind_some, hd, bne_self_eq_false, Bool.false_or] at h6
   obtain ⟨k, hk, h7⟩ := Array.any_eq_true.1 h6
   simp only [Bool.and_eq_true, beq_iff_eq] at h7
   exact ⟨_, Array.getElem_mem hk, h7.1, h7.2⟩
 ·have := Array.all_eq_true_iff_forall_mem.1 h3 e he
  simpa [hb] using this
 ·have h5 := Array.all_eq_true_iff_forall_mem.1 h4 (.tmp s) hs
  have h6 := List.all_eq_true.1 h5 j (List.mem_range.2 (Array.getElem?_eq_some_iff.1 hj).1)
  simp only [hj, Option.bind_some, hd, bne_self_eq_false, Bool.false_or] at h6
  obtain ⟨k, hk, h7⟩ := Array.any_eq_true.1 h6
  simp only [Bool.and_eq_true, beq_iff_eq] at h7
  exact ⟨_, Array.getElem_mem hk, h7.1, h7.2⟩
theorem put_tr {a b : Act} {dst : Option Tmp} {u v : Value} (hs : a.tmps.size = b.tmps.size) (h : b.put dst u = b.put dst v) : a.put dst u = a.put dst v := by
 cases dst with
 | none => rfl
 | some d =>
  by_cases hd : d < b.tmps.size
  ·have h1 : (b.tmps.setIfInBounds d u)[d]? = (b.tmps.setIfInBounds d v)[d]? := congrArg (fun x : Act => x.tmps[d]?) h
   rw [Array.getElem?_setIfInBounds_self_of_lt hd, Array.getElem?_setIfInBounds_self_of_lt hd] at h1
   rw [Option.some.inj h1]
  ·have : ∀ z, a.tmps.setIfInBounds d z = a.tmps := fun z => Array.setIfInBounds_eq_of_size_le (by rw [hs]; exact Nat.le_of_not_lt hd)
   show ({ a with tmps := _ } : Act) = { a with tmps := _ }
   rw [this, this]
theorem put_defers_ne {b : Act} {dst : Option Tmp} {d : Deferred} {v : Value} (h : ({ b with defers := d :: b.defers } : Act).put dst undef = b.put dst v) : False := by
 have h1 := congrArg (fun x : Act => x.defers.length) h
 cases dst <;> simp [Act.put] at h1
theorem wp_tr {P : Program} {o : Oper} {a b : Act} {w : World} {R : Value → World → Prop} {Q : Exit → Act → World → Prop}
  (he : execOp a.eval o = execOp b.eval o) (hs : a.tmps.size = b.tmps.size)
  (h : o.wp P b w (fun a' w' => ∃ v, a' = b.put o.dst v ∧ R v w') Qn) : o.wp P a w (fun a' w' => ∃ v, a' = a.put o.dst v ∧ R v w') Q := by
 unfold Oper.wp at *
 rw [he]
 have nl : ¬ LetsOut Qn := fun ⟨_, _, h⟩ => h
 generalize (execOp b.eval o).run P w = r at *
 cases r with
 | ok n w' =>
  cases n <;> simp only [Oper.upon] at h ⊢
  case value v => obtain ⟨u, e, hr⟩ := h; exact ⟨u, put_tr hs e, hr⟩
  case skip => obtain ⟨u, e, hr⟩ := h; exact ⟨u, put_tr hs e, hr⟩
  case defer d => obtain ⟨u, e, hr⟩ := h; exact (put_defers_ne e).elim
  case enter f args =>
   refine Calls.mono h (fun e w'' hh => ?_)
   cases e with
   | returned v => obtain ⟨u, e, hr⟩ := hh; exact ⟨u, put_tr hs e, hr⟩
   | panicked c => exact hh.elim
   | outgrown => exact (nl hh).elim
  case row r args =>
   refine Rows.mono h (fun v w'' hh => ?_)
   obtain ⟨u, e, hr⟩ := hh; exact ⟨u, put_tr hs e, hr⟩
 | halt x w' => cases x <;> simp only [Oper.upon] at h ⊢ <;> exact h.elim
theorem getD_tf {l : Array Bool} {i : Nat} (h : i < l.size) (h1 : l.getD i true = false) : l.getD i false = false := by
 simp [Array.getD, h] at *; exact h1
section
variable {P : Program} {ops : Array Oper} {Q : Exit → Act → World → Prop} {τ : Type} (A : τ → Act) (I : τ → Array Bool → World → Prop)
theorem all_listed (hn : neat ops = true) {listed : Array Bool} (hz : listed.size = ops.size) (hr : Region.ready .any ops listed = []) : ∀ i, i < ops.size → listed.getD i false = true := by
 intro i
 induction i using Nat.strongRecOn with
 | _ i ih =>
  intro hi
  have ho : ops[i]? = some ops[i] := Array.getElem?_eq_getElem hi
  by_cases hl : listed.getD i true = false
  ·have : i ∈ Region.ready .any ops listed := mem_ready.2 ⟨hl, _, ho, fun e he hb => by
    have := (neat_spec hn ho).2.1 e he hb
    exact ih _ this (by omega)⟩
   rw [hr] at this
   cases this
  ·have hi' : i < listed.size := by omega
   simp [Array.getD, hi'] at hl ⊢
   exact hl
theorem wpAny_free (hn : neat ops = true) (hs : Region.noSelect ops = true)
  (hwa : ∀ (t : τ) (i : Nat) (o : Oper), ops[i]? = some o → Region.wanted o (yielded ops (A t).tmps) = true)
  (step : ∀ (i : Nat) (o : Oper), ops[i]? = some o → ∀ (t : τ) (listed : Array Bool) (w : World), listed.size = ops.size → Shut ops listed → listed.getD i false = false → I t listed w →
   (∀ e ∈ o.after, Region.binds .any e = true → listed.getD e.on false = true) →
   o.wp P (A t) w (fun a' w' => ∃ v, a' = (A t).put o.dst v ∧ ∃ t', (∀ d, o.dst = some d → (A t').tmps[d]? = some v) ∧ Agr ops listed (A t) (A t') ∧ I t' (listed.setIfInBounds i true) w') Qn)
  (done : ∀ (t : τ) (listed : Array Bool) (w : World), (∀ i, i < ops.size → listed.getD i false = true) → I t listed w → Q .normal (A t) w) :
  ∀ (fuel : Nat) (listed : Array Bool) (a : Act) (w : World), listed.size = ops.size → listed.toList.count false ≤ fuel → Shut ops listed → (∃ t, Agr ops listed a (A t) ∧ I t listed w) → wpAny P .any ops Q fuel listed a w := by
 have fin : ∀ (listed : Array Bool) (a : Act) (w : World), listed.size = ops.size → (∃ t, Agr ops listed a (A t) ∧ I t listed w) → Region.ready .any ops listed = [] → Q .normal a w := by
  rintro listed a w hz ⟨t, ⟨g1, g2, g3⟩, hI⟩ hr
  have hall := all_listed hn hz hr
  have e : a = A t := by
   have ht : a.tmps = (A t).tmps := Array.ext_getElem? fun d => g3 d fun j o hj _ => hall j (Array.getElem?_eq_some_iff.1 hj).1
   cases ha : a with
   | mk x y => cases hb : A t with
    | mk x' y' => rw [ha, hb] at ht g1; simp only at ht g1; rw [ht, g1]
  rw [e]
  exact done t listed w hall hI
 intro fuel
 induction fuel with
 | zero =>
  intro listed a w hz hc hS hI
  have hr : Region.ready .any ops listed = [] := by
   cases hr : Region.ready .any ops listed with
   | nil => rfl
   | cons i l =>
    have hi : i ∈ Region.ready .any ops listed := by rw [hr]; simp
    obtain ⟨h1, o, ho, _⟩ := mem_ready.1 hi
    have hlt : i < listed.size := by rw [hz]; exact (Array.getElem?_eq_some_iff.1 ho).1
    have hm : false ∈ listed.toList := by
     simp [Array.getD, hlt] at h1
     rw [← h1]
     simp
    have := List.count_pos_iff.2 hm
    omega
  exact ⟨hr, fin listed a w hz hI hr⟩
 | succ fuel ih =>
  intro listed a w hz hc hS hI
  refine ⟨fin listed a w hz hI, fun i hi => ?_⟩
  obtain ⟨t, ⟨g1, g2, g3⟩, hI⟩ := hI
  obtain ⟨h1, o, ho, hb⟩ := mem_ready.1 hi
  have hlt : i < ops.size := (Array.getElem?_eq_some_iff.1 ho).1
  have h1' := getD_tf (by omega) h1
  obtain ⟨n1, n2, n3⟩ := neat_spec hn ho
  have he : execOp a.eval o = execOp (A t).eval o := execOp_congr o (fun cs b => Region.noSelect_spec hs i o cs b ho) fun x hx => by
   cases x with
   | tmp s =>
    have := g3 s fun j oj hj hd => by
     obtain ⟨e, he, hbe, rfl⟩ := n3 s hx j oj hj hd
     exact hb e he hbe
    show a.tmps.getD s undef = (A t).tmps.getD s undef
    rw [Array.getD_eq_getD_getElem?, Array.getD_eq_getD_getElem?, this]
   | _ => rfl
  have hw := step i o ho t listed w hz hS h1' hI hb
  have hw' := wp_tr (Q := Q) (a := a) he g2 hw
  unfold wpOp
  rw [ho]
  have hwant : Region.wanted o (yielded ops a.tmps) = true := by
   rw [← hwa t i o ho]
   unfold Region.wanted
   cases hg : o.guard with
   | none => rfl
   | some gb =>
    obtain ⟨g, b⟩ := gb
    obtain ⟨s, hs1, hs2⟩ := n1 g b hg
    have := g3 s fun j oj hj hd => by
     obtain ⟨e, he, hbe, rfl⟩ := hs2 j oj hj hd
     exact hb e he hbe
    show (yielded ops a.tmps g == some b) = (yielded ops (A t).tmps g == some b)
    unfold yielded
    rw [hs1]
    simp only [Option.bind_some, this]
  simp only [hwant, if_true]
  left
  refine Oper.wp_mono ?_ hw'
  rintro a' w' ⟨v, rfl, t', hv, ⟨q1, q2, q3⟩, hI'⟩
  refine ih _ _ _ (by simpa using hz) ?_ ?_ ⟨t', ⟨?_, ?_, ?_⟩, hI'⟩
  ·have hl : listed.toList[i]? = some false := by
    have : i < listed.size := by omega
    simp [Array.getD, this] at h1
    simp [this, h1]
   have hm := List.count_set (a := true) (b := false) (l := listed.toList) (i := i) (by simp; omega)
   rw [Array.toList_setIfInBounds]
   have h3 : listed.toList[i]'(by simp; omega) = false := by
    rw [List.getElem?_eq_some_iff] at hl; exact hl.2
   rw [hm, h3]
   have h4 := List.count_pos_iff.2 (List.mem_of_getElem? hl)
   simp only [beq_self_eq_true, if_true]
   have : (true == false) = false := rfl
   rw [this]
   simp only [Bool.false_eq_true, if_false]
   omega
  ·intro j oj hj hl e he hbe
   by_cases hij : i = j
   ·subst hij
    rw [ho] at hj
    obtain rfl := Option.some.inj hj
    exact getD_set_true (hb e he hbe)
   ·rw [getD_set_ne false hij] at hl
    exact getD_set_true (hS j oj hj hl e he hbe)
  ·rw [← q1, ← g1]; cases o.dst <;> rfl
  ·rw [← q2, ← g2]; cases o.dst <;> simp [Act.put]
  ·intro d hd
   by_cases hod : o.dst = some d
   ·rw [hod]
    have h5 := hv d hod
    rw [h5]
    have : d < a.tmps.size := by rw [g2, q2]; exact (Array.getElem?_eq_some_iff.1 h5).1
    exact Array.getElem?_setIfInBounds_self_of_lt this
   ·have hpre : ∀ j oj, ops[j]? = some oj → oj.dst = some d → listed.getD j false = true := fun j oj hj hdj => by
     have h6 := hd j oj hj hdj
     have hij : i ≠ j := by
      rintro rfl
      rw [ho] at hj
      obtain rfl := Option.some.inj hj
      exact hod hdj
     rwa [getD_set_ne false hij] at h6
    have : (a.put o.dst v).tmps[d]? = a.tmps[d]? := by
     cases hdst : o.dst with
     | none => rfl
     | some z => exact Array.getElem?_setIfInBounds_ne (fun e => hod (by rw [hdst, e]))
    rw [this, g3 d hpre, q3 d hpre]
theorem wp_region_free {id : Nat} {a : Act} {w : World} (hm : P.follows .mixedOrders = true) (hn : neat ops = true) (hs : Region.noSelect ops = true) (t0 : τ)
  (hwa : ∀ (t : τ) (i : Nat) (o : Oper), ops[i]? = some o → Region.wanted o (yielded ops (A t).tmps) = true)
  (h0 : Agr ops (Array.replicate ops.size false) a (A t0)) (hI : I t0 (Array.replicate ops.size false) { w with drawn := w.drawn + 1 })
  (done : ∀ (t : τ) (listed : Array Bool) (w : World), (∀ i, i < ops.size → listed.getD i false = true) → I t listed w → Q .normal (A t) w)
  (step : ∀ (i : Nat) (o : Oper), ops[i]? = some o → ∀ (t : τ) (listed : Array Bool) (w : World), listed.size = ops.size → Shut ops listed → listed.getD i false = false → I t listed w →
   (∀ e ∈ o.after, Region.binds .any e = true → listed.getD e.on false = true) →
   o.wp P (A t) w (fun a' w' => ∃ v, a' = (A t).put o.dst v ∧ ∃ t', (∀ d, o.dst = some d → (A t').tmps[d]? = some v) ∧ Agr ops listed (A t) (A t') ∧ I t' (listed.setIfInBounds i true) w') Qn) :
  (Code.region id ops true).wp P Q a w :=
 wp_region_any hm (wpAny_free A I hn hs hwa step done _ _ _ _ (by simp) (by simp) (fun j o hj hl => by
  have : (Array.replicate ops.size false).getD j false = false := by simp [Array.getD]
  rw [this] at hl; cases hl) ⟨t0, h0, hI⟩)
end
def puts : List Oper → List Value → Act → Act
 | o :: os, v :: vs, a => puts os vs (a.put o.dst v)
 | _, _, a => a
theorem puts_size : ∀ (os : List Oper) (vs : List Value) (a : Act), (puts os vs a).tmps.size = a.tmps.size ∧ (puts os vs a).defers = a.defers
 | [], _, a => ⟨rfl, rfl⟩
 | _ :: _, [], a => ⟨rfl, rfl⟩
 | o :: os, v :: vs, a => by
  have := puts_size os vs (a.put o.dst v)
  refine ⟨this.1.trans ?_, this.2.trans ?_⟩ <;> cases o.dst <;> simp [Act.put]
theorem put_get_ne {a : Act} {x : Option Tmp} {v : Value} {d : Nat} (h : x ≠ some d) : (a.put x v).tmps[d]? = a.tmps[d]? := by
 cases x with
 | none => rfl
 | some z => exact Array.getElem?_setIfInBounds_ne (fun e => h (by rw [e]))
theorem puts_get_ne {d : Nat} : ∀ (os : List Oper) (vs : List Value) (a : Act), (∀ o ∈ os, o.dst ≠ some d) → (puts os vs a).tmps[d]? = a.tmps[d]?
 | [], _, a, _ => rfl
 | _ :: _, [], a, _ => rfl
 | o :: os, v :: vs, a, h => (puts_get_ne os vs _ (fun o ho => h o (List.mem_cons_of_mem _ ho))).trans (put_get_ne (h o (by simp)))
theorem puts_agree {d : Nat} : ∀ (os : List Oper) (us vs : List Value) (a b : Act), us.length = vs.length → a.tmps.size = b.tmps.size → a.tmps[d]? = b.tmps[d]? →
  (∀ (j : Nat) (o : Oper), os[j]? = some o → o.dst = some d → us[j]? = vs[j]?) → (puts os us a).tmps[d]? = (puts os vs b).tmps[d]?
 | [], _, _, a, b, _, _, h, _ => h
 | o :: os, [], [], a, b, _, _, h, _ => h
 | o :: os, u :: us, v :: vs, a, b, hl, hs, h, hv => by
  refine puts_agree os us vs _ _ (by simpa using hl) (by cases o.dst <;> simp [Act.put, hs]) ?_ (fun j o' hj hd => by simpa using hv (j + 1) o' (by simpa using hj) hd)
  by_cases hd : o.dst = some d
  ·have e := hv 0 o rfl hd
   simp only [List.getElem?_cons_zero, Option.some.injEq] at e
   rw [hd, e]
   by_cases hb : d < b.tmps.size
   ·show (a.tmps.setIfInBounds d v)[d]? = (b.tmps.setIfInBounds d v)[d]?
    rw [Array.getElem?_setIfInBounds_self_of_lt hb, Array.getElem?_setIfInBounds_self_of_lt (by rw [hs]; exact hb)]
   ·show (a.tmps.setIfInBounds d v)[d]? = (b.tmps.setIfInBounds d v)[d]?
    rw [Array.setIfInBounds_eq_of_size_le (Nat.le_of_not_lt hb), Array.setIfInBounds_eq_of_size_le (by rw [hs]; exact Nat.le_of_not_lt hb)]
    exact h
  ·rw [put_get_ne hd, put_get_ne hd]; exact h
def once : List Oper → Nat → Bool
 | [], _ => true
 | o :: os, n => (match o.dst with | none => true | some d => decide (d < n) && os.all fun p => p.dst != some d) && once os n
theorem puts_get {d : Nat} {v : Value} {n : Nat} : ∀ (os : List Oper) (vs : List Value) (a : Act) (i : Nat) (o : Oper), once os n = true → a.tmps.size = n → os[i]? = some o → o.dst = some d → vs[i]? = some v → (puts os vs a).tmps[d]? = some v
 | [], _, a, i, o, _, _, ho, _, _ => by simp at ho
 | _ :: _, [], a, i, o, _, _, _, _, hv => by simp at hv
 | p :: os, u :: vs, a, 0, o, h1, hs, ho, hd, hv => by
  simp only [List.getElem?_cons_zero, Option.some.injEq] at ho hv
  subst ho; subst hv
  simp only [once, hd, Bool.and_eq_true, decide_eq_true_eq] at h1
  show (puts os vs (a.put p.dst u)).tmps[d]? = _
  rw [puts_get_ne os vs _ (fun o ho => by have := List.all_eq_true.1 h1.1.2 o ho; simpa using this), hd]
  exact Array.getElem?_setIfInBounds_self_of_lt (by rw [hs]; exact h1.1.1)
 | p :: os, u :: vs, a, i + 1, o, h1, hs, ho, hd, hv => by
  simp only [once, Bool.and_eq_true] at h1
  exact puts_get os vs _ i o h1.2 (by cases p.dst <;> simp [Act.put, hs]) (by simpa using ho) hd (by simpa using hv)
def Each (S : Nat → Oper → Prop) : List Oper → Nat → Prop
 | [], _ => True
 | o :: os, k => S k o ∧ Each S os (k + 1)
theorem Each.get {S : Nat → Oper → Prop} : ∀ (os : List Oper) (k : Nat), Each S os k → ∀ i o, os[i]? = some o → S (k + i) o
 | [], _, _, i, o, h => by simp at h
 | p :: os, k, h, 0, o, ho => by simp only [List.getElem?_cons_zero, Option.some.injEq] at ho; exact ho ▸ h.1
 | p :: os, k, h, i + 1, o, ho => by
  have := Each.get os (k + 1) h.2 i o (by simpa using ho)
  rwa [show k + 1 + i = k + (i + 1) by omega] at this
def Step1 {τ : Type} (P : Program) (ops : Array Oper) (vals : τ → List Value) (B : τ → Act) (I : τ → Array Bool → World → Prop) (i : Nat) (o : Oper) : Prop :=
 ∀ (t : τ) (listed : Array Bool) (w : World), listed.size = ops.size → Shut ops listed → listed.getD i false = false → I t listed w →
  (∀ e ∈ o.after, Region.binds .any e = true → listed.getD e.on false = true) →
  ∀ K : Act → World → Prop, (∀ v w', (∃ t', (vals t')[i]? = some v ∧ (∀ j, listed.getD j false = true → (vals t)[j]? = (vals t')[j]?) ∧ I t' (listed.setIfInBounds i true) w') → K ((B t).put o.dst v) w') →
   (∀ w', I t (listed.setIfInBounds i true) w' → K (B t) w') → o.wp P (B t) w K Qn
theorem region_vals {τ : Type} {P : Program} {ops : Array Oper} {Q : Exit → Act → World → Prop} {id : Nat} {a : Act} {w : World} (vals : τ → List Value) (I : τ → Array Bool → World → Prop) (t0 : τ) {B : τ → Act}
  (hm : P.follows .mixedOrders = true) (hn : neat ops = true) (hs : Region.noSelect ops = true) (h1 : once ops.toList a.tmps.size = true) (hv : ∀ t, (vals t).length = ops.size)
  (hB : ∀ t, puts ops.toList (vals t) a = B t) (hwa : ∀ t, (ops.all fun o => Region.wanted o (yielded ops (B t).tmps)) = true) (hI : I t0 (Array.replicate ops.size false) { w with drawn := w.drawn + 1 })
  (step : Each (Step1 P ops vals B I) ops.toList 0)
  (done : ∀ (t : τ) (listed : Array Bool) (w : World), (∀ i, i < ops.size → listed.getD i false = true) → I t listed w → Q .normal (B t) w) :
  (Code.region id ops true).wp P Q a w := by
 have sz : ∀ t, (B t).tmps.size = a.tmps.size ∧ (B t).defers = a.defers := fun t => by rw [← hB t]; exact puts_size _ _ _
 refine wp_region_free B I hm hn hs t0 (fun t i o ho => Array.all_eq_true_iff_forall_mem.1 (hwa t) o (Array.mem_of_getElem? ho)) ⟨(sz t0).2.symm, (sz t0).1.symm, fun d hd => ?_⟩ hI done ?_
 ·rw [← hB t0, puts_get_ne]
  intro o ho hod
  obtain ⟨j, hj⟩ := List.getElem?_of_mem ho
  have := hd j o (by simpa using hj) hod
  simp [Array.getD] at this
 ·intro i o ho t listed w hz hS hl hI' hb
  have st := Each.get _ _ step i o (by simpa using ho)
  rw [Nat.zero_add] at st
  have main : ∀ v w', (∃ t', (vals t')[i]? = some v ∧ (∀ j, listed.getD j false = true → (vals t)[j]? = (vals t')[j]?) ∧ I t' (listed.setIfInBounds i true) w') → ∃ v', (B t).put o.dst v = (B t).put o.dst v' ∧ ∃ t', (∀ d, o.dst = some d → (B t').tmps[d]? = some v') ∧ Agr ops listed (B t) (B t') ∧ I t' (listed.setIfInBounds i true) w' := ?_
  ·refine st t listed w hz hS hl hI' hb _ main (fun w' h => ?_)
   have hi : i < (vals t).length := by rw [hv]; exact (Array.getElem?_eq_some_iff.1 ho).1
   have e1 : (vals t)[i]? = some (vals t)[i] := List.getElem?_eq_getElem hi
   obtain ⟨v', e, h'⟩ := main _ w' ⟨t, e1, fun _ _ => rfl, h⟩
   refine ⟨v', ?_, h'⟩
   rw [← e]
   cases hd : o.dst with
   | none => rfl
   | some d =>
    have g := puts_get (v := (vals t)[i]) ops.toList (vals t) a i o h1 rfl (by simpa using ho) hd e1
    rw [hB t] at g
    have : (B t).tmps.setIfInBounds d (vals t)[i] = (B t).tmps := Array.ext_getElem? fun j => by
     by_cases hj : d = j
     ·subst hj
      rw [Array.getElem?_setIfInBounds_self_of_lt (Array.getElem?_eq_some_iff.1 g).1, g]
     ·exact Array.getElem?_setIfInBounds_ne hj
    unfold Act.put
    simp only [this]
  rintro v w' ⟨t', e1, e2, hI2⟩
  refine ⟨v, rfl, t', fun d hd => ?_, ⟨(sz t).2.trans (sz t').2.symm, (sz t).1.trans (sz t').1.symm, fun d hd => ?_⟩, hI2⟩
  ·rw [← hB t']
   exact puts_get ops.toList _ a i o h1 rfl (by simpa using ho) hd e1
  ·rw [← hB t, ← hB t']
   refine puts_agree _ _ _ _ _ ((hv t).trans (hv t').symm) rfl rfl (fun j o' hj hd' => e2 j (hd j o' (by simpa using hj) hd'))
def edge (ops : Array Oper) (j i : Nat) : Bool := match ops[j]? with
 | some o => o.after.any fun e => Region.binds .any e && e.on == i
 | none => false
theorem shut_no {ops : Array Oper} {listed : Array Bool} {i j : Nat} (hS : Shut ops listed) (hl : listed.getD i false = false) (h : edge ops j i = true) : listed.getD j false = false := by
 unfold edge at h
 cases ho : ops[j]? with
 | none => rw [ho] at h; cases h
 | some o =>
  rw [ho] at h
  obtain ⟨k, hk, h7⟩ := Array.any_eq_true.1 h
  simp only [Bool.and_eq_true, beq_iff_eq] at h7
  cases hj : listed.getD j false with
  | false => rfl
  | true =>
   have := hS j o ho hj _ (Array.getElem_mem hk) h7.1
   rw [h7.2, hl] at this
   cases this
theorem on_of {o : Oper} {listed : Array Bool} {i : Nat} (hb : ∀ e ∈ o.after, Region.binds .any e = true → listed.getD e.on false = true) (h : (o.after.any fun e => Region.binds .any e && e.on == i) = true) : listed.getD i false = true := by
 obtain ⟨k, hk, h7⟩ := Array.any_eq_true.1 h
 simp only [Bool.and_eq_true, beq_iff_eq] at h7
 have := hb _ (Array.getElem_mem hk) h7.1
 rwa [h7.2] at this
theorem shut_yes {ops : Array Oper} {listed : Array Bool} {i j : Nat} (hS : Shut ops listed) (hl : listed.getD j false = true) (h : edge ops j i = true) : listed.getD i false = true := by
 cases hi : listed.getD i false with
 | true => rfl
 | false => rw [shut_no hS hi h] at hl; cases hl
theorem getD_self {listed : Array Bool} {i n : Nat} (hz : listed.size = n) (hi : i < n) : (listed.setIfInBounds i true).getD i false = true := by
 simp [Array.getD, hz, hi]
theorem vals_one {l l' : List Value} {i : Nat} {u : Value} {listed : Array Bool} (e : l.set i u = l') (hi : listed.getD i false = false) (j : Nat) (hj : listed.getD j false = true) : l[j]? = l'[j]? := by
 rw [← e]
 by_cases h1 : i = j
 ·rw [← h1, hi] at hj; cases hj
 rw [List.getElem?_set_ne h1]
end Go.OrdG
