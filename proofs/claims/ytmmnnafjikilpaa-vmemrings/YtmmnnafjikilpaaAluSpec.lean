/- Plain facts on what the operations of layer 1 come to, result and flags: no Go text in sight; each under the bounds that it names. -/
import Derived.Test.YtmmnnafjikilpaaAluMath
namespace Go.Proofs.Ytmmnnafjikilpaa
open Go.RowKit
set_option linter.unusedVariables false

theorem wrap_u64' (n : Int) : IntKind.u64.wrap n = n % 18446744073709551616 := rfl

def okSize (s : Int) : Bool := s == 1 || s == 2 || s == 4

def namedF (op : Int) : Int := if op = 9 ∨ op = 10 then 2064 else 2065

def workR (op M x y c : Int) : Int :=
  if op = 9 then addR M x 1 0 else if op = 0 then addR M x y 0 else if op = 2 then addR M x y c else if op = 11 then subR M 0 x 0 else if op = 10 then subR M x 1 0
  else if op = 5 then subR M x y 0 else if op = 7 then subR M x y 0 else if op = 3 then subR M x y c else if op = 1 then bits .or .u32 x y else if op = 6 then bits .xor .u32 x y else bits .and .u32 x y

def workM (op M H x y c : Int) : Int :=
  if op = 9 then addM M H x 1 0 else if op = 0 then addM M H x y 0 else if op = 2 then addM M H x y c else if op = 11 then subM M H 0 x 0 else if op = 10 then subM M H x 1 0
  else if op = 5 then subM M H x y 0 else if op = 7 then subM M H x y 0 else if op = 3 then subM M H x y c else 0

theorem Sz_of {s : Int} (h : okSize s = true) : ∃ H M sp bt, Sz s H M sp bt := by
  unfold okSize at h
  simp only [Bool.or_eq_true, beq_iff_eq] at h
  rcases h with (rfl | rfl) | rfl
  · exact ⟨128, 256, 24, 8, Or.inl ⟨rfl, rfl, rfl, rfl, rfl⟩⟩
  · exact ⟨32768, 65536, 16, 16, Or.inr (Or.inl ⟨rfl, rfl, rfl, rfl, rfl⟩)⟩
  · exact ⟨2147483648, 4294967296, 0, 32, Or.inr (Or.inr ⟨rfl, rfl, rfl, rfl, rfl⟩)⟩

theorem Sz.ok {s H M sp bt : Int} (hS : Sz s H M sp bt) : okSize s = true := by
  rcases hS with ⟨rfl, rfl, rfl, rfl, rfl⟩ | ⟨rfl, rfl, rfl, rfl, rfl⟩ | ⟨rfl, rfl, rfl, rfl, rfl⟩ <;> rfl

theorem mod_bd {M : Int} (m : 0 < M) (a : Int) : 0 ≤ a % M ∧ a % M < M := ⟨Int.emod_nonneg _ (by omega), Int.emod_lt_of_pos _ m⟩

theorem bits_lt {s H M sp bt x y : Int} (hS : Sz s H M sp bt) (x0 : 0 ≤ x) (x1 : x < M) (y0 : 0 ≤ y) (y1 : y < M) :
    (0 ≤ bits .or .u32 x y ∧ bits .or .u32 x y < M) ∧ (0 ≤ bits .xor .u32 x y ∧ bits .xor .u32 x y < M) ∧ (0 ≤ bits .and .u32 x y ∧ bits .and .u32 x y < M) := by
  have mt := hS.top.1
  rw [u32_or x y x0 (by omega) y0 (by omega), u32_xor x y x0 (by omega) y0 (by omega), u32_and x y x0 (by omega) y0 (by omega)]
  rcases hS with ⟨rfl, rfl, rfl, rfl, rfl⟩ | ⟨rfl, rfl, rfl, rfl, rfl⟩ | ⟨rfl, rfl, rfl, rfl, rfl⟩
  · have a := Nat.or_lt_two_pow (n := 8) (x := x.toNat) (y := y.toNat) (by omega) (by omega)
    have b := Nat.xor_lt_two_pow (n := 8) (x := x.toNat) (y := y.toNat) (by omega) (by omega)
    have c := Nat.and_lt_two_pow (n := 8) x.toNat (y := y.toNat) (by omega)
    omega
  · have a := Nat.or_lt_two_pow (n := 16) (x := x.toNat) (y := y.toNat) (by omega) (by omega)
    have b := Nat.xor_lt_two_pow (n := 16) (x := x.toNat) (y := y.toNat) (by omega) (by omega)
    have c := Nat.and_lt_two_pow (n := 16) x.toNat (y := y.toNat) (by omega)
    omega
  · have a := lt32_or (a := x.toNat) (b := y.toNat) (by omega) (by omega)
    have b := lt32_xor (a := x.toNat) (b := y.toNat) (by omega) (by omega)
    have c := lt32_and (a := x.toNat) (b := y.toNat) (by omega)
    omega

theorem workR_bd {s H M sp bt x y : Int} (hS : Sz s H M sp bt) (x0 : 0 ≤ x) (x1 : x < M) (y0 : 0 ≤ y) (y1 : y < M) (op c : Int) : 0 ≤ workR op M x y c ∧ workR op M x y c < M := by
  have m0 : 0 < M := by have := hS.top; omega
  have b := bits_lt hS x0 x1 y0 y1
  unfold workR addR subR
  repeat' split
  all_goals first | exact mod_bd m0 _ | exact b.1 | exact b.2.1 | exact b.2.2

theorem workM_bd (op M H x y c : Int) : 0 ≤ workM op M H x y c ∧ workM op M H x y c < 4294967296 := by
  unfold workM addM subM
  repeat' split
  all_goals first | exact mkM_bd _ _ _ | decide

theorem namedF_bd (op : Int) : 0 ≤ namedF op ∧ namedF op < 4294967296 := by unfold namedF; split <;> decide

def layF (op M H x y f : Int) : Int := bits .or .u32 (bits .andNot .u32 f (namedF op)) (bits .and .u32 (workM op M H x y (f % 2)) (namedF op))

def doR (op M x y f : Int) : Int := if op = 12 then M - 1 - x else if op = 7 then x else if op = 8 then x else workR op M x y (f % 2)

def doF (op M H x y f : Int) : Int := if op = 12 then f else byF H (workR op M x y (f % 2)) (layF op M H x y f)

theorem lay_bd (op M H x y c : Int) {f : Int} (f0 : 0 ≤ f) (f1 : f < 4294967296) :
    0 ≤ bits .or .u32 (bits .andNot .u32 f (namedF op)) (bits .and .u32 (workM op M H x y c) (namedF op)) ∧ bits .or .u32 (bits .andNot .u32 f (namedF op)) (bits .and .u32 (workM op M H x y c) (namedF op)) < 4294967296 := by
  have hM := workM_bd op M H x y c
  have hN := namedF_bd op
  have hA1 := andNot_bd f0 f1 hN.1 hN.2
  have hA2 := and_bd hM.1 hM.2 hN.1 hN.2
  exact or_bd hA1.1 hA1.2 hA2.1 hA2.2

theorem xor_all {x : Int} (x0 : 0 ≤ x) (x1 : x < 4294967296) : bits .xor .u32 4294967295 x = 4294967295 - x := by
  have b := xor_bd (a := 4294967295) (by decide) (by decide) x0 x1
  refine tb_ext b.1 (by omega) fun i => ?_
  by_cases hi : i < 32
  · rw [not_bd x0 x1 i hi, tb_not x0 x1 hi]
  · rw [tb_high b.2 (by omega), tb_high (by omega) (by omega)]

theorem not_cut {s H M sp bt x : Int} (hS : Sz s H M sp bt) (x0 : 0 ≤ x) (x1 : x < M) : IntKind.u64.wrap (bits .xor .u32 4294967295 x) % M = M - 1 - x := by
  have mt := hS.top.1
  rw [xor_all x0 (by omega), wrap_u64']
  rcases hS with ⟨rfl, rfl, rfl, rfl, rfl⟩ | ⟨rfl, rfl, rfl, rfl, rfl⟩ | ⟨rfl, rfl, rfl, rfl, rfl⟩ <;> omega

def isFlag (k : Int) : Prop := k = 1 ∨ k = 4 ∨ k = 16 ∨ k = 64 ∨ k = 128 ∨ k = 2048

theorem bd1 {f : Int} (f0 : 0 ≤ f) (f1 : f < 4294967296) (k : Int) (hk : isFlag k) (b : Bool) : 0 ≤ setF f k b ∧ setF f k b < 4294967296 := setF_bd f0 f1 k hk b

theorem bd2 {f : Int} (f0 : 0 ≤ f) (f1 : f < 4294967296) (k l : Int) (hk : isFlag k) (hl : isFlag l) (b c : Bool) : 0 ≤ setF (setF f k b) l c ∧ setF (setF f k b) l c < 4294967296 :=
  setF_bd (bd1 f0 f1 k hk b).1 (bd1 f0 f1 k hk b).2 l hl c

theorem bd3 {f : Int} (f0 : 0 ≤ f) (f1 : f < 4294967296) (k l m : Int) (hk : isFlag k) (hl : isFlag l) (hm : isFlag m) (b c d : Bool) : 0 ≤ setF (setF (setF f k b) l c) m d ∧ setF (setF (setF f k b) l c) m d < 4294967296 :=
  setF_bd (bd2 f0 f1 k l hk hl b c).1 (bd2 f0 f1 k l hk hl b c).2 m hm d

theorem byF_bd {f : Int} (f0 : 0 ≤ f) (f1 : f < 4294967296) (H n : Int) : 0 ≤ byF H n f ∧ byF H n f < 4294967296 :=
  bd3 f0 f1 64 128 4 (by simp [isFlag]) (by simp [isFlag]) (by simp [isFlag]) _ _ _

theorem fl1 : isFlag 1 := by simp [isFlag]

theorem fl4 : isFlag 4 := by simp [isFlag]

theorem fl16 : isFlag 16 := by simp [isFlag]

theorem fl64 : isFlag 64 := by simp [isFlag]

theorem fl128 : isFlag 128 := by simp [isFlag]

theorem fl2048 : isFlag 2048 := by simp [isFlag]

def addF (M H x y c f : Int) : Int := byF H (addR M x y c) (setF (setF (setF f 1 (addC M x y c)) 16 (addA x y c)) 2048 (addV M H x y c))

def subF (M H x y c f : Int) : Int := byF H (subR M x y c) (setF (setF (setF f 1 (subC x y c)) 16 (subA x y c)) 2048 (subV M H x y c))

def logF (H r f : Int) : Int := byF H r (setF (setF (setF f 1 false) 2048 false) 16 false)

theorem bits64 {x y : Int} (x0 : 0 ≤ x) (x1 : x < 4294967296) (y0 : 0 ≤ y) (y1 : y < 4294967296) :
    bits .or .u64 x y = bits .or .u32 x y ∧ bits .xor .u64 x y = bits .xor .u32 x y ∧ bits .and .u64 x y = bits .and .u32 x y := by
  rw [u32_or x y x0 x1 y0 y1, u32_xor x y x0 x1 y0 y1, u32_and x y x0 x1 y0 y1, u64_or x y x0 (by omega) y0 (by omega), u64_xor x y x0 (by omega) y0 (by omega), u64_and x y x0 (by omega) y0 (by omega)]
  exact ⟨rfl, rfl, rfl⟩

theorem lay_add {f : Int} (f0 : 0 ≤ f) (f1 : f < 4294967296) (M H x y c : Int) :
    byF H (addR M x y c) (bits .or .u32 (bits .andNot .u32 f 2065) (bits .and .u32 (addM M H x y c) 2065)) = addF M H x y c f := by
  unfold addM addF; rw [marks_bits f0 f1]

theorem lay_sub {f : Int} (f0 : 0 ≤ f) (f1 : f < 4294967296) (M H x y c : Int) :
    byF H (subR M x y c) (bits .or .u32 (bits .andNot .u32 f 2065) (bits .and .u32 (subM M H x y c) 2065)) = subF M H x y c f := by
  unfold subM subF; rw [marks_bits f0 f1]

theorem swap_flags {f : Int} (f0 : 0 ≤ f) (f1 : f < 4294967296) : setF (setF (setF f 1 false) 16 false) 2048 false = setF (setF (setF f 1 false) 2048 false) 16 false := by
  refine tb_ext (bd3 f0 f1 _ _ _ fl1 fl16 fl2048 _ _ _).1 (bd3 f0 f1 _ _ _ fl1 fl2048 fl16 _ _ _).1 fun i => ?_
  rw [tb_set2048 (bd2 f0 f1 _ _ fl1 fl16 _ _).1, tb_set16 (bd1 f0 f1 _ fl1 _).1, tb_set1 f0, tb_set16 (bd2 f0 f1 _ _ fl1 fl2048 _ _).1, tb_set2048 (bd1 f0 f1 _ fl1 _).1, tb_set1 f0]
  by_cases h4 : i = 4
  · subst h4; simp
  · simp [h4]

theorem lay_log {f : Int} (f0 : 0 ≤ f) (f1 : f < 4294967296) (H r : Int) :
    byF H r (bits .or .u32 (bits .andNot .u32 f 2065) (bits .and .u32 0 2065)) = logF H r f := by
  have h := marks_bits f0 f1 false false false
  rw [show mkM false false false = 0 from rfl] at h
  rw [h, swap_flags f0 f1]; rfl

theorem marks_keep {f : Int} (f0 : 0 ≤ f) (f1 : f < 4294967296) (c a v : Bool) (H r : Int) :
    byF H r (bits .or .u32 (bits .andNot .u32 f 2064) (bits .and .u32 (mkM c a v) 2064)) = setF (byF H r (setF (setF (setF f 1 c) 16 a) 2048 v)) 1 (hasF f 1) := by
  have a1 := andNot_bd f0 f1 (b := 2064) (by decide) (by decide)
  have m := mkM_bd c a v
  have a2 := and_bd m.1 m.2 (b := 2064) (by decide) (by decide)
  have a3 := or_bd a1.1 a1.2 a2.1 a2.2
  have b3 := bd3 f0 f1 _ _ _ fl1 fl16 fl2048 c a v
  have b6 := byF_bd b3.1 b3.2 H r
  have l6 := byF_bd a3.1 a3.2 H r
  refine tb_ext l6.1 (bd1 b6.1 b6.2 _ fl1 _).1 fun i => ?_
  rw [tb_set1 b6.1, hasF_1 f0]
  unfold byF
  rw [tb_set4 (bd2 a3.1 a3.2 _ _ fl64 fl128 _ _).1, tb_set128 (bd1 a3.1 a3.2 _ fl64 _).1, tb_set64 a3.1, tb_or a1.1 a1.2 a2.1 a2.2, tb_andNot f0 f1 (by decide) (by decide), tb_and m.1 m.2 (by decide) (by decide), tb_2064, tb_mkM,
    tb_set4 (bd2 b3.1 b3.2 _ _ fl64 fl128 _ _).1, tb_set128 (bd1 b3.1 b3.2 _ fl64 _).1, tb_set64 b3.1, tb_set2048 (bd2 f0 f1 _ _ fl1 fl16 _ _).1, tb_set16 (bd1 f0 f1 _ fl1 _).1, tb_set1 f0]
  by_cases h0 : i = 0
  · subst h0; simp
  · by_cases h4 : i = 4
    · subst h4; simp
    · by_cases h11 : i = 11
      · subst h11; simp
      · simp [h0, h4, h11]

theorem lay_inc {f : Int} (f0 : 0 ≤ f) (f1 : f < 4294967296) (M H x y c : Int) :
    byF H (addR M x y c) (bits .or .u32 (bits .andNot .u32 f 2064) (bits .and .u32 (addM M H x y c) 2064)) = setF (addF M H x y c f) 1 (hasF f 1) := by
  unfold addM addF; rw [marks_keep f0 f1]

theorem lay_dec {f : Int} (f0 : 0 ≤ f) (f1 : f < 4294967296) (M H x y c : Int) :
    byF H (subR M x y c) (bits .or .u32 (bits .andNot .u32 f 2064) (bits .and .u32 (subM M H x y c) 2064)) = setF (subF M H x y c f) 1 (hasF f 1) := by
  unfold subM subF; rw [marks_keep f0 f1]

theorem addF_bd {f : Int} (f0 : 0 ≤ f) (f1 : f < 4294967296) (M H x y c : Int) : 0 ≤ addF M H x y c f ∧ addF M H x y c f < 4294967296 :=
  byF_bd (bd3 f0 f1 _ _ _ fl1 fl16 fl2048 _ _ _).1 (bd3 f0 f1 _ _ _ fl1 fl16 fl2048 _ _ _).2 _ _

theorem subF_bd {f : Int} (f0 : 0 ≤ f) (f1 : f < 4294967296) (M H x y c : Int) : 0 ≤ subF M H x y c f ∧ subF M H x y c f < 4294967296 :=
  byF_bd (bd3 f0 f1 _ _ _ fl1 fl16 fl2048 _ _ _).1 (bd3 f0 f1 _ _ _ fl1 fl16 fl2048 _ _ _).2 _ _

/-- what each operation is, flags and all, in the document's words -/
theorem doF_is {f : Int} (f0 : 0 ≤ f) (f1 : f < 4294967296) (M H x y : Int) :
    doF 0 M H x y f = addF M H x y 0 f ∧ doF 2 M H x y f = addF M H x y (f % 2) f ∧ doF 5 M H x y f = subF M H x y 0 f ∧ doF 3 M H x y f = subF M H x y (f % 2) f ∧ doF 7 M H x y f = subF M H x y 0 f ∧
    doF 1 M H x y f = logF H (bits .or .u32 x y) f ∧ doF 4 M H x y f = logF H (bits .and .u32 x y) f ∧ doF 6 M H x y f = logF H (bits .xor .u32 x y) f ∧ doF 8 M H x y f = logF H (bits .and .u32 x y) f ∧
    doF 9 M H x y f = setF (addF M H x 1 0 f) 1 (hasF f 1) ∧ doF 10 M H x y f = setF (subF M H x 1 0 f) 1 (hasF f 1) ∧ doF 11 M H x y f = subF M H 0 x 0 f ∧ doF 12 M H x y f = f :=
  ⟨lay_add f0 f1 M H x y 0, lay_add f0 f1 M H x y _, lay_sub f0 f1 M H x y 0, lay_sub f0 f1 M H x y _, lay_sub f0 f1 M H x y 0, lay_log f0 f1 H _, lay_log f0 f1 H _, lay_log f0 f1 H _, lay_log f0 f1 H _, lay_inc f0 f1 M H x 1 0, lay_dec f0 f1 M H x 1 0, lay_sub f0 f1 M H 0 x 0, rfl⟩

theorem doR_bd {s H M sp bt x y : Int} (hS : Sz s H M sp bt) (x0 : 0 ≤ x) (x1 : x < M) (y0 : 0 ≤ y) (y1 : y < M) (op f : Int) : 0 ≤ doR op M x y f ∧ doR op M x y f < M := by
  have h := workR_bd hS x0 x1 y0 y1 op (f % 2)
  unfold doR
  repeat' split
  · omega
  · omega
  · omega
  · exact h

theorem or_self' {x : Int} (x0 : 0 ≤ x) (x1 : x < 4294967296) : bits .or .u32 x x = x := by
  rw [u32_or x x x0 x1 x0 x1, Nat.or_self]; omega

theorem xor_back {x y : Int} (x0 : 0 ≤ x) (x1 : x < 4294967296) (y0 : 0 ≤ y) (y1 : y < 4294967296) : bits .xor .u32 (bits .xor .u32 x y) y = x := by
  have b := xor_bd x0 x1 y0 y1
  rw [u32_xor _ y b.1 b.2 y0 y1, u32_xor x y x0 x1 y0 y1, Int.toNat_natCast, Nat.xor_assoc, Nat.xor_self, Nat.xor_zero]; omega

theorem back_or {s H M sp bt x : Int} (hS : Sz s H M sp bt) (x0 : 0 ≤ x) (x1 : x < M) (f : Int) : doR 1 M x x f = x := by
  have mt := hS.top.1
  show bits .or .u32 x x = x
  exact or_self' x0 (by omega)

theorem back_add {s H M sp bt x y : Int} (hS : Sz s H M sp bt) (x0 : 0 ≤ x) (x1 : x < M) (y0 : 0 ≤ y) (y1 : y < M) (f : Int) : doR 5 M (doR 0 M x y f % M) y f = x := by
  show subR M (addR M x y 0 % M) y 0 = x
  unfold subR addR
  rcases hS with ⟨rfl, rfl, rfl, rfl, rfl⟩ | ⟨rfl, rfl, rfl, rfl, rfl⟩ | ⟨rfl, rfl, rfl, rfl, rfl⟩ <;> omega

theorem back_adc {s H M sp bt x y : Int} (hS : Sz s H M sp bt) (x0 : 0 ≤ x) (x1 : x < M) (y0 : 0 ≤ y) (y1 : y < M) (f : Int) : doR 3 M (doR 2 M x y f % M) y f = x := by
  show subR M (addR M x y (f % 2) % M) y (f % 2) = x
  unfold subR addR
  rcases hS with ⟨rfl, rfl, rfl, rfl, rfl⟩ | ⟨rfl, rfl, rfl, rfl, rfl⟩ | ⟨rfl, rfl, rfl, rfl, rfl⟩ <;> omega

theorem back_xor {s H M sp bt x y : Int} (hS : Sz s H M sp bt) (x0 : 0 ≤ x) (x1 : x < M) (y0 : 0 ≤ y) (y1 : y < M) (f : Int) : doR 6 M (doR 6 M x y f % M) y f = x := by
  have mt := hS.top.1
  have b := bits_lt hS x0 x1 y0 y1
  show bits .xor .u32 (bits .xor .u32 x y % M) y = x
  rw [Int.emod_eq_of_lt b.2.1.1 b.2.1.2]
  exact xor_back x0 (by omega) y0 (by omega)

theorem back_not {s H M sp bt x : Int} (hS : Sz s H M sp bt) (x0 : 0 ≤ x) (x1 : x < M) (y f : Int) : doR 12 M (doR 12 M x y f % M) y f = x := by
  show M - 1 - (M - 1 - x) % M = x
  rw [Int.emod_eq_of_lt (by omega) (by omega)]; omega

theorem back_neg {s H M sp bt x : Int} (hS : Sz s H M sp bt) (x0 : 0 ≤ x) (x1 : x < M) (y f : Int) : doR 11 M (doR 11 M x y f % M) y f = x := by
  show subR M 0 (subR M 0 x 0 % M) 0 = x
  unfold subR
  rcases hS with ⟨rfl, rfl, rfl, rfl, rfl⟩ | ⟨rfl, rfl, rfl, rfl, rfl⟩ | ⟨rfl, rfl, rfl, rfl, rfl⟩ <;> omega

theorem back_inc {s H M sp bt x : Int} (hS : Sz s H M sp bt) (x0 : 0 ≤ x) (x1 : x < M) (y f : Int) : doR 10 M (doR 9 M x y f % M) y f = x := by
  show subR M (addR M x 1 0 % M) 1 0 = x
  unfold subR addR
  rcases hS with ⟨rfl, rfl, rfl, rfl, rfl⟩ | ⟨rfl, rfl, rfl, rfl, rfl⟩ | ⟨rfl, rfl, rfl, rfl, rfl⟩ <;> omega

theorem hasF_tb {f : Int} (f0 : 0 ≤ f) (j : Nat) : hasF f ((2 ^ j : Nat) : Int) = tb f j := by
  rw [tb_div f f0 j]; unfold hasF; rw [Bool.eq_iff_iff]; simp

theorem has_by {f : Int} (f0 : 0 ≤ f) (f1 : f < 4294967296) (H r : Int) (c a v : Bool) :
    hasF (byF H r (setF (setF (setF f 1 c) 16 a) 2048 v)) 1 = c ∧ hasF (byF H r (setF (setF (setF f 1 c) 16 a) 2048 v)) 64 = (r == 0) ∧
    hasF (byF H r (setF (setF (setF f 1 c) 16 a) 2048 v)) 128 = sgn H r ∧ hasF (byF H r (setF (setF (setF f 1 c) 16 a) 2048 v)) 2048 = v := by
  have b3 := bd3 f0 f1 _ _ _ fl1 fl16 fl2048 c a v
  have b6 := byF_bd b3.1 b3.2 H r
  have t : ∀ i, tb (byF H r (setF (setF (setF f 1 c) 16 a) 2048 v)) i = if i = 2 then par r else if i = 7 then sgn H r else if i = 6 then (r == 0) else if i = 11 then v else if i = 4 then a else if i = 0 then c else tb f i := fun i => by
    unfold byF
    rw [tb_set4 (bd2 b3.1 b3.2 _ _ fl64 fl128 _ _).1, tb_set128 (bd1 b3.1 b3.2 _ fl64 _).1, tb_set64 b3.1, tb_set2048 (bd2 f0 f1 _ _ fl1 fl16 _ _).1, tb_set16 (bd1 f0 f1 _ fl1 _).1, tb_set1 f0]
  exact ⟨(hasF_tb b6.1 0).trans (t 0), (hasF_tb b6.1 6).trans (t 6), (hasF_tb b6.1 7).trans (t 7), (hasF_tb b6.1 11).trans (t 11)⟩

def sgv (M H x : Int) : Int := if x < H then x else x - M

theorem sign_order {M H x y : Int} (h2 : M = 2 * H) (x0 : 0 ≤ x) (x1 : x < M) (y0 : 0 ≤ y) (y1 : y < M) :
    (sgn H (subR M x y 0) != subV M H x y 0) = decide (sgv M H x < sgv M H y) := by
  have hr : (x < y ∧ subR M x y 0 = x - y + M) ∨ (¬ x < y ∧ subR M x y 0 = x - y) := by
    unfold subR
    by_cases h : x < y
    · left
      refine ⟨h, ?_⟩
      rw [Int.sub_zero, ← Int.add_emod_right, Int.emod_eq_of_lt (by omega) (by omega)]
    · right
      refine ⟨h, ?_⟩
      rw [Int.sub_zero, Int.emod_eq_of_lt (by omega) (by omega)]
  unfold subV sgv sgn
  generalize subR M x y 0 = r at *
  by_cases hx : H ≤ x <;> by_cases hy : H ≤ y <;> by_cases hz : H ≤ r
  all_goals
    simp only [hx, hy, hz, decide_true, decide_false, bne_self_eq_false, Bool.false_and, Bool.true_and, Bool.bne_false, Bool.bne_true, beq_self_eq_true, Bool.not_false, Bool.true_bne, Bool.false_bne]
    rw [Bool.eq_iff_iff]
    simp
    repeat' split
    all_goals omega

theorem orders {s H M sp bt x y f : Int} (hS : Sz s H M sp bt) (x0 : 0 ≤ x) (x1 : x < M) (y0 : 0 ≤ y) (y1 : y < M) (f0 : 0 ≤ f) (f1 : f < 4294967296) :
    hasF (doF 7 M H x y f) 1 = decide (x < y) ∧ hasF (doF 7 M H x y f) 64 = (x == y) ∧ (hasF (doF 7 M H x y f) 128 != hasF (doF 7 M H x y f) 2048) = decide (sgv M H x < sgv M H y) := by
  have hD := doF_is f0 f1 M H x y
  have h := has_by f0 f1 H (subR M x y 0) (subC x y 0) (subA x y 0) (subV M H x y 0)
  rw [hD.2.2.2.2.1]
  unfold subF
  rw [h.1, h.2.1, h.2.2.1, h.2.2.2]
  have t := hS.top
  refine ⟨?_, ?_, ?_⟩
  · unfold subC; rw [Int.add_zero]
  · unfold subR
    rw [Bool.eq_iff_iff]
    simp only [beq_iff_eq]
    rcases hS with ⟨rfl, rfl, rfl, rfl, rfl⟩ | ⟨rfl, rfl, rfl, rfl, rfl⟩ | ⟨rfl, rfl, rfl, rfl, rfl⟩ <;> omega
  · exact sign_order t.2.1 x0 x1 y0 y1

theorem sgn_half (x : Int) (x0 : 0 ≤ x) : sgn 32768 (x / 65536) = sgn 2147483648 x := by
  unfold sgn; rw [Bool.eq_iff_iff]; simp only [decide_eq_true_eq]; omega

theorem carry_of {g : Int} (g0 : 0 ≤ g) {c : Bool} (h : hasF g 1 = c) : g % 2 = if c = true then 1 else 0 := by
  unfold hasF at h
  subst h
  simp only [beq_iff_eq, Int.ediv_one]
  split <;> omega

theorem doF_bd {f : Int} (f0 : 0 ≤ f) (f1 : f < 4294967296) (op M H x y : Int) : 0 ≤ doF op M H x y f ∧ doF op M H x y f < 4294967296 := by
  unfold doF
  split
  · exact ⟨f0, f1⟩
  · exact byF_bd (lay_bd op M H x y (f % 2) f0 f1).1 (lay_bd op M H x y (f % 2) f0 f1).2 _ _

theorem parts_sum {a b f : Int} (a0 : 0 ≤ a) (a1 : a < 4294967296) (b0 : 0 ≤ b) (b1 : b < 4294967296) (f0 : 0 ≤ f) (f1 : f < 4294967296) :
    doR 0 4294967296 a b f = (doR 2 65536 (a / 65536) (b / 65536) (doF 0 65536 32768 (a % 65536) (b % 65536) f) * 65536 + doR 0 65536 (a % 65536) (b % 65536) f) % 4294967296 ∧
    hasF (doF 0 4294967296 2147483648 a b f) 1 = hasF (doF 2 65536 32768 (a / 65536) (b / 65536) (doF 0 65536 32768 (a % 65536) (b % 65536) f)) 1 ∧
    hasF (doF 0 4294967296 2147483648 a b f) 2048 = hasF (doF 2 65536 32768 (a / 65536) (b / 65536) (doF 0 65536 32768 (a % 65536) (b % 65536) f)) 2048 := by
  have bF := doF_bd f0 f1 0 65536 32768 (a % 65536) (b % 65536)
  have hF : hasF (doF 0 65536 32768 (a % 65536) (b % 65536) f) 1 = addC 65536 (a % 65536) (b % 65536) 0 := by
    rw [(doF_is f0 f1 65536 32768 (a % 65536) (b % 65536)).1]; exact (has_by f0 f1 _ _ _ _ _).1
  have c := carry_of bF.1 hF
  generalize hg : doF 0 65536 32768 (a % 65536) (b % 65536) f = g at *
  rw [(doF_is f0 f1 4294967296 2147483648 a b).1, (doF_is bF.1 bF.2 65536 32768 (a / 65536) (b / 65536)).2.1]
  unfold addF
  rw [(has_by f0 f1 _ _ _ _ _).1, (has_by f0 f1 _ _ _ _ _).2.2.2, (has_by bF.1 bF.2 _ _ _ _ _).1, (has_by bF.1 bF.2 _ _ _ _ _).2.2.2]
  clear hg hF bF
  have hc : g % 2 = (a % 65536 + b % 65536) / 65536 := by
    rw [c]; unfold addC; simp only [decide_eq_true_eq]; split <;> omega
  have hr : addR 65536 (a / 65536) (b / 65536) (g % 2) = addR 4294967296 a b 0 / 65536 := by
    unfold addR; rw [hc]; omega
  refine ⟨?_, ?_, ?_⟩
  · show addR 4294967296 a b 0 = (addR 65536 (a / 65536) (b / 65536) (g % 2) * 65536 + addR 65536 (a % 65536) (b % 65536) 0) % 4294967296
    rw [hr]; unfold addR; omega
  · unfold addC; rw [hc, Bool.eq_iff_iff]; simp only [decide_eq_true_eq]; omega
  · unfold addV
    rw [hr, sgn_half a a0, sgn_half b b0, sgn_half (addR 4294967296 a b 0) (mod_bd (by decide) _).1]

theorem parts_diff {a b f : Int} (a0 : 0 ≤ a) (a1 : a < 4294967296) (b0 : 0 ≤ b) (b1 : b < 4294967296) (f0 : 0 ≤ f) (f1 : f < 4294967296) :
    doR 5 4294967296 a b f = (doR 3 65536 (a / 65536) (b / 65536) (doF 5 65536 32768 (a % 65536) (b % 65536) f) * 65536 + doR 5 65536 (a % 65536) (b % 65536) f) % 4294967296 ∧
    hasF (doF 5 4294967296 2147483648 a b f) 1 = hasF (doF 3 65536 32768 (a / 65536) (b / 65536) (doF 5 65536 32768 (a % 65536) (b % 65536) f)) 1 ∧
    hasF (doF 5 4294967296 2147483648 a b f) 2048 = hasF (doF 3 65536 32768 (a / 65536) (b / 65536) (doF 5 65536 32768 (a % 65536) (b % 65536) f)) 2048 := by
  have bF := doF_bd f0 f1 5 65536 32768 (a % 65536) (b % 65536)
  have hF : hasF (doF 5 65536 32768 (a % 65536) (b % 65536) f) 1 = subC (a % 65536) (b % 65536) 0 := by
    rw [(doF_is f0 f1 65536 32768 (a % 65536) (b % 65536)).2.2.1]; exact (has_by f0 f1 _ _ _ _ _).1
  have c := carry_of bF.1 hF
  generalize hg : doF 5 65536 32768 (a % 65536) (b % 65536) f = g at *
  rw [(doF_is f0 f1 4294967296 2147483648 a b).2.2.1, (doF_is bF.1 bF.2 65536 32768 (a / 65536) (b / 65536)).2.2.2.1]
  unfold subF
  rw [(has_by f0 f1 _ _ _ _ _).1, (has_by f0 f1 _ _ _ _ _).2.2.2, (has_by bF.1 bF.2 _ _ _ _ _).1, (has_by bF.1 bF.2 _ _ _ _ _).2.2.2]
  clear hg hF bF
  have hc : g % 2 = if a % 65536 < b % 65536 then 1 else 0 := by
    rw [c]; unfold subC; simp only [decide_eq_true_eq, Int.add_zero]
  clear c
  have hr : subR 65536 (a / 65536) (b / 65536) (g % 2) = subR 4294967296 a b 0 / 65536 := by
    unfold subR; rw [hc]; split <;> omega
  refine ⟨?_, ?_, ?_⟩
  · show subR 4294967296 a b 0 = (subR 65536 (a / 65536) (b / 65536) (g % 2) * 65536 + subR 65536 (a % 65536) (b % 65536) 0) % 4294967296
    rw [hr]; unfold subR; omega
  · unfold subC; rw [hc, Bool.eq_iff_iff]; simp only [decide_eq_true_eq]; split <;> omega
  · unfold subV
    rw [hr, sgn_half a a0, sgn_half b b0, sgn_half (subR 4294967296 a b 0) (mod_bd (by decide) _).1]

theorem lt32 {s H M sp bt x : Int} (hS : Sz s H M sp bt) (h : 0 ≤ x ∧ x < M) : 0 ≤ x ∧ x < 4294967296 := ⟨h.1, by have := hS.top; omega⟩

theorem wrap_i8' (n : Int) : IntKind.i8.wrap n = (n + 128) % 256 - 128 := by
  simp only [IntKind.wrap, IntKind.bits, IntKind.signed, Bool.true_and]
  split <;> simp_all <;> omega

theorem wrap_i16' (n : Int) : IntKind.i16.wrap n = (n + 32768) % 65536 - 32768 := by
  simp only [IntKind.wrap, IntKind.bits, IntKind.signed, Bool.true_and]
  split <;> simp_all <;> omega

theorem sz2 : Sz 2 32768 65536 16 16 := Or.inr (Or.inl ⟨rfl, rfl, rfl, rfl, rfl⟩)

theorem sz1 : Sz 1 128 256 24 8 := Or.inl ⟨rfl, rfl, rfl, rfl, rfl⟩

theorem sz4 : Sz 4 2147483648 4294967296 0 32 := Or.inr (Or.inr ⟨rfl, rfl, rfl, rfl, rfl⟩)
end Go.Proofs.Ytmmnnafjikilpaa
