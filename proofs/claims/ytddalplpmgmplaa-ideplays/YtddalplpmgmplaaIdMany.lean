/- Many bytes at once: plain facts. -/
import Derived.Test.YtddalplpmgmplaaIdMath
namespace Go.Proofs.Ytddalplpmgmplaa
open Go.RowKit
set_option linter.unusedVariables false

def Id.putL (d : Id) (l : List Int) : Id := l.foldl Id.put d

/-- The bytes of a number, the lowest first. -/
def bytL (v : Int) (n : Nat) : List Int := (List.range n).map (fun k => v / 2 ^ (8 * k) % 256)

theorem bytL_succ (v : Int) (n : Nat) : bytL v (n + 1) = bytL v n ++ [v / 2 ^ (8 * n) % 256] := by
  unfold bytL
  rw [List.range_succ, List.map_append]
  rfl

theorem putL_puts (d : Id) (v : Int) : ∀ n, d.putL (bytL v n) = d.puts v n
  | 0 => rfl
  | n + 1 => by
    rw [bytL_succ]
    unfold Id.putL
    rw [List.foldl_append]
    show ((bytL v n).foldl Id.put d).put _ = _
    have := putL_puts d v n
    unfold Id.putL at this
    rw [this]
    rfl

theorem putL_append (d : Id) (l m : List Int) : d.putL (l ++ m) = (d.putL l).putL m := by
  unfold Id.putL
  rw [List.foldl_append]

theorem putL_take (d : Id) (l : List Int) (m n : Nat) : d.putL (l.take (m + n)) = (d.putL (l.take m)).putL ((l.drop m).take n) := by
  rw [List.take_add, putL_append]

theorem put_idle (d : Id) (hm : d.mode ≠ 2) (b : Int) : d.put b = d := by
  unfold Id.put
  rw [if_neg hm]

theorem putL_idle (d : Id) (hm : d.mode ≠ 2) : ∀ l : List Int, d.putL l = d
  | [] => rfl
  | b :: l => by
    show (d.put b).putL l = d
    rw [put_idle d hm, putL_idle d hm l]

/-- Bytes laid one behind the other. -/
def layL (f : Nat → Int) (o : Nat) (l : List Int) : Nat → Int := fun i => if o ≤ i ∧ i < o + l.length then l.getD (i - o) 0 else f i

theorem layL_cons (f : Nat → Int) (o : Nat) (b : Int) (l : List Int) : layL (setB f o b) (o + 1) l = layL f o (b :: l) := by
  funext i
  unfold layL setB
  rw [List.length_cons]
  by_cases a : i = o
  · subst a
    rw [if_neg (by omega), if_pos rfl, if_pos (by omega), Nat.sub_self]
    rfl
  · by_cases c : o + 1 ≤ i ∧ i < o + 1 + l.length
    · rw [if_pos c, if_pos (by omega)]
      obtain ⟨j, rfl⟩ : ∃ j, i = o + 1 + j := ⟨i - (o + 1), by omega⟩
      rw [show o + 1 + j - (o + 1) = j by omega, show o + 1 + j - o = j + 1 by omega]
      rfl
    · rw [if_neg c, if_neg a, if_neg (by omega)]

theorem putL_few : ∀ (l : List Int) (d : Id), d.mode = 2 → d.don + l.length < 512 → d.putL l = { d with buf := layL d.buf d.don l, don := d.don + l.length }
  | [], d, _, _ => by
    show d = _
    have e : layL d.buf d.don [] = d.buf := by
      funext i
      unfold layL
      rw [if_neg (by simp)]
    rw [e]
    rfl
  | b :: l, d, hm, hl => by
    rw [List.length_cons] at hl
    show (d.put b).putL l = _
    have e : d.put b = { d with buf := setB d.buf d.don b, don := d.don + 1 } := by
      unfold Id.put
      rw [if_pos hm, if_pos (by omega)]
    rw [e, putL_few l ({ d with buf := setB d.buf d.don b, don := d.don + 1 } : Id) hm (by show d.don + 1 + l.length < 512; omega)]
    show ({ d with buf := layL (setB d.buf d.don b) (d.don + 1) l, don := d.don + 1 + l.length } : Id) = _
    rw [layL_cons, List.length_cons, show d.don + 1 + l.length = d.don + (l.length + 1) by omega]

theorem putL_full (l : List Int) (d : Id) (hm : d.mode = 2) (hl : d.don + l.length = 512) (h0 : l ≠ []) : d.putL l = if d.there = true then { (({ d with buf := layL d.buf d.don l, don := 0 } : Id).lay.one) with mark := true } else ({ d with buf := layL d.buf d.don l, don := 0 } : Id).fail 16 := by
  obtain ⟨m, b, rfl⟩ : ∃ m b, l = m ++ [b] := ⟨l.dropLast, l.getLast h0, (List.dropLast_concat_getLast h0).symm⟩
  rw [List.length_append, List.length_singleton] at hl
  rw [putL_append, putL_few m d hm (by omega)]
  show Id.put _ b = _
  unfold Id.put
  rw [if_pos (show ({ d with buf := layL d.buf d.don m, don := d.don + m.length } : Id).mode = 2 from hm), if_neg (show ¬ ({ d with buf := layL d.buf d.don m, don := d.don + m.length } : Id).don + 1 < 512 by show ¬ d.don + m.length + 1 < 512; omega)]
  have e : setB (layL d.buf d.don m) (d.don + m.length) b = layL d.buf d.don (m ++ [b]) := by
    funext i
    unfold setB layL
    rw [List.length_append, List.length_singleton]
    by_cases a : i = d.don + m.length
    · subst a
      rw [if_pos rfl, if_pos (by omega), show d.don + m.length - d.don = m.length by omega]
      simp
    · rw [if_neg a]
      by_cases c : d.don ≤ i ∧ i < d.don + m.length
      · rw [if_pos c, if_pos (by omega), List.getD_eq_getElem?_getD, List.getD_eq_getElem?_getD, List.getElem?_append_left (by omega)]
      · rw [if_neg c, if_neg (by omega)]
  show (if d.there = true then { (({ d with buf := setB (layL d.buf d.don m) (d.don + m.length) b, don := 0 } : Id).lay.one) with mark := true } else ({ d with buf := setB (layL d.buf d.don m) (d.don + m.length) b, don := 0 } : Id).fail 16) = _
  rw [e]

/-- What bounds the list of what was written. -/
def Id.work (d : Id) : Nat := 512 * d.log.length + (if d.mode = 2 then d.don else 0)

theorem begin_work (d : Id) (m : Int) : (d.begin m).work ≤ 512 * d.log.length := by
  unfold Id.begin Id.work
  split
  · split
    · show 512 * d.log.length + (if m = 2 then 0 else 0) ≤ _
      split <;> omega
    · show 512 * d.log.length + (if m = 2 then 0 else 0) ≤ _
      split <;> omega
  · show 512 * d.log.length + (if (0 : Int) = 2 then d.don else 0) ≤ _
    rw [if_neg (by decide)]
    omega

theorem one_work (d : Id) : d.one.work ≤ 512 * d.log.length := by
  unfold Id.one
  split
  · show 512 * d.log.length + (if (0 : Int) = 2 then d.don else 0) ≤ _
    rw [if_neg (by decide)]
    omega
  · exact begin_work d.next _

theorem put_work (d : Id) (hd : d.don < 512) (b : Int) : (d.put b).work ≤ d.work + 1 := by
  unfold Id.put
  split
  · rename_i hm
    have e : d.work = 512 * d.log.length + d.don := by unfold Id.work; rw [if_pos hm]
    split
    · show 512 * d.log.length + (if d.mode = 2 then d.don + 1 else 0) ≤ _
      rw [if_pos hm, e]
      omega
    · split
      · have h1 := one_work ({ d with buf := setB d.buf d.don b, don := 0 } : Id).lay
        have h2 : ({ d with buf := setB d.buf d.don b, don := 0 } : Id).lay.log.length = d.log.length + 1 := by
          show (d.log ++ [_]).length = _
          rw [List.length_append, List.length_singleton]
        rw [h2] at h1
        have h3 : ∀ x : Id, ({ x with mark := true } : Id).work = x.work := fun x => rfl
        rw [h3]
        omega
      · show 512 * d.log.length + (if (0 : Int) = 2 then 0 else 0) ≤ _
        rw [if_neg (by decide), e]
        omega
  · omega

theorem putL_work : ∀ (l : List Int) (d : Id), d.Ok → (∀ b ∈ l, byt b) → (d.putL l).work ≤ d.work + l.length
  | [], d, _, _ => Nat.le_refl _
  | b :: l, d, k, hb => by
    have h1 := put_work d k.don b
    have h2 := putL_work l (d.put b) (k.put (hb b (by simp))) (fun x hx => hb x (by simp [hx]))
    show ((d.put b).putL l).work ≤ _
    rw [List.length_cons]
    omega

theorem work_log (d : Id) : 512 * d.log.length ≤ d.work := by unfold Id.work; omega

theorem bytL_byt (v : Int) (n : Nat) : ∀ b ∈ bytL v n, byt b := by
  intro b hb
  unfold bytL at hb
  rw [List.mem_map] at hb
  obtain ⟨k, _, rfl⟩ := hb
  exact byt_m

theorem putL_ok : ∀ (l : List Int) (d : Id), d.Ok → (∀ b ∈ l, byt b) → (d.putL l).Ok
  | [], d, k, _ => k
  | b :: l, d, k, hb => putL_ok l (d.put b) (k.put (hb b (by simp))) (fun x hx => hb x (by simp [hx]))

theorem gets_work (d : Id) : d.get.work ≤ d.work := by
  unfold Id.get
  split
  · split
    · rename_i hm _
      show 512 * d.log.length + (if d.mode = 2 then _ else 0) ≤ _
      rw [if_neg (by omega)]
      unfold Id.work
      omega
    · split
      · show 512 * d.log.length + (if (0 : Int) = 2 then 0 else 0) ≤ _
        rw [if_neg (by decide)]
        unfold Id.work
        omega
      · have := one_work ({ d with don := 0 } : Id)
        have e : ({ d with don := 0 } : Id).log = d.log := rfl
        rw [e] at this
        unfold Id.work at this ⊢
        omega
  · exact Nat.le_refl _

theorem getsN_work (d : Id) : ∀ n, (d.gets n).work ≤ d.work
  | 0 => Nat.le_refl _
  | n + 1 => Nat.le_trans (gets_work (d.gets n)) (getsN_work d n)

theorem command_work (d : Id) (k : Int) : (d.command k).work ≤ d.work := by
  have h0 : d.clear.log = d.log := rfl
  have h1 := work_log d
  unfold Id.command
  split
  · exact Nat.le_refl _
  · split
    · split
      · split
        · have := begin_work d.clear 1; rw [h0] at this; omega
        · have := begin_work d.clear 2; rw [h0] at this; omega
      · show 512 * d.log.length + (if (0 : Int) = 2 then d.don else 0) ≤ _
        rw [if_neg (by decide)]; omega
    · split
      · show 512 * d.log.length + (if (3 : Int) = 2 then 0 else 0) ≤ _
        rw [if_neg (by decide)]; omega
      · split
        · show 512 * d.log.length + (if (0 : Int) = 2 then d.don else 0) ≤ _
          rw [if_neg (by decide)]; omega
        · show 512 * d.log.length + (if (0 : Int) = 2 then d.don else 0) ≤ _
          rw [if_neg (by decide)]; omega

theorem out_work (d : Id) (hk : d.Ok) (reg : Int) (size : Nat) (v : Int) : (d.out reg size v).work ≤ d.work + size := by
  have h1 := work_log d
  unfold Id.out
  split
  · split
    · omega
    · rw [← putL_puts]
      have := putL_work (bytL v size) d hk (bytL_byt v size)
      have e : (bytL v size).length = size := by unfold bytL; simp
      rw [e] at this
      exact this
  · repeat' split
    all_goals first
      | exact Nat.le_add_right _ _
      | exact Nat.le_trans (command_work d _) (Nat.le_add_right _ _)
      | (unfold Id.ctl
         split
         · show 512 * d.log.length + (if (0 : Int) = 2 then 0 else 0) ≤ _
           rw [if_neg (by decide)]; omega
         · exact Nat.le_add_right _ _)

theorem inn_work (d : Id) (reg : Int) (size : Nat) : (d.inn reg size).work ≤ d.work := by
  unfold Id.inn
  split
  · exact Nat.le_refl _
  · split
    · exact getsN_work d size
    · split
      · exact Nat.le_refl _
      · exact Nat.le_refl _

theorem told_work (d : Id) : d.told.work ≤ d.work := by
  show 512 * 0 + (if d.mode = 2 then d.don else 0) ≤ 512 * d.log.length + (if d.mode = 2 then d.don else 0)
  omega

theorem gets_add (d : Id) (m : Nat) : ∀ n, d.gets (m + n) = (d.gets m).gets n
  | 0 => rfl
  | n + 1 => by
    show (d.gets (m + n)).get = ((d.gets m).gets n).get
    rw [gets_add d m n]

theorem gets_idle (d : Id) (hm : ¬ (d.mode = 1 ∨ d.mode = 3)) : ∀ n, d.gets n = d
  | 0 => rfl
  | n + 1 => by
    show (d.gets n).get = d
    rw [gets_idle d hm n]
    unfold Id.get
    rw [if_neg hm]

theorem getV_idle (d : Id) (hm : ¬ (d.mode = 1 ∨ d.mode = 3)) : d.getV = 255 := by
  unfold Id.getV
  rw [if_neg hm]

theorem gets_few (d : Id) (hm : d.mode = 1 ∨ d.mode = 3) : ∀ n, d.don + n < 512 → d.gets n = { d with don := d.don + n }
  | 0, _ => rfl
  | n + 1, h => by
    show (d.gets n).get = _
    rw [gets_few d hm n (by omega)]
    unfold Id.get
    rw [if_pos (show ({ d with don := d.don + n } : Id).mode = 1 ∨ ({ d with don := d.don + n } : Id).mode = 3 from hm), if_pos (show ({ d with don := d.don + n } : Id).don + 1 < 512 by show d.don + n + 1 < 512; omega)]
    rfl

theorem gets_getV (d : Id) (hm : d.mode = 1 ∨ d.mode = 3) (n : Nat) (h : d.don + n < 512) : (d.gets n).getV = d.buf (d.don + n) := by
  rw [gets_few d hm n h]
  unfold Id.getV
  rw [if_pos (show ({ d with don := d.don + n } : Id).mode = 1 ∨ ({ d with don := d.don + n } : Id).mode = 3 from hm)]

theorem gets_full (d : Id) (hm : d.mode = 1 ∨ d.mode = 3) (n : Nat) (h : d.don + n = 512) (h0 : 0 < n) : d.gets n = if d.mode = 3 then { d with don := 0, mode := 0 } else ({ d with don := 0 } : Id).one := by
  obtain ⟨m, rfl⟩ : ∃ m, n = m + 1 := ⟨n - 1, by omega⟩
  show (d.gets m).get = _
  rw [gets_few d hm m (by omega)]
  unfold Id.get
  rw [if_pos (show ({ d with don := d.don + m } : Id).mode = 1 ∨ ({ d with don := d.don + m } : Id).mode = 3 from hm), if_neg (show ¬ ({ d with don := d.don + m } : Id).don + 1 < 512 by show ¬ d.don + m + 1 < 512; omega)]

end Go.Proofs.Ytddalplpmgmplaa
