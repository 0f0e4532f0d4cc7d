/- The bus and its devices: IdDisk, IdOpen, IdFacts, IdStr, IdSame, IxBase, IxLeaf, IxCmd, IxEc. -/
import Derived.Test.YtonfjhbfkichkaaGreatBz13
import Derived.Test.YtonfjhbfkichkaaGreatRows
import Derived.WalkKit
import Derived.ProofKit
import Derived.OpenShut
import Derived.Carry
import Derived.Deep.Slices
import Derived.Below
import Derived.SizedLaws
import Derived.Test.YtonfjhbfkichkaaGreatBz11
import Derived.Laws.BytesArg
import Derived.Deep.Cut
namespace Go.Proofs.YtonfjhbfkichkaaGreat.Dk
open Go.ChangeShapes Go.WideShapes Go.ChangeAt Go.RowKit
set_option linter.unusedVariables false
set_option maxRecDepth 20000
def foldN (s : Int) : Int := if s < 0 then -(s + 1) else s
def secN (s : Int) : Nat := (foldN s % 5).toNat
theorem secN_lt (s : Int) : secN s < 5 := by unfold secN; omega
def dskS (seed : Int) (i : Nat) : Int := (((i : Int) / 512 + 1) * 16 + (i : Int) % 7 + seed) % 256
theorem dskS_byt (seed : Int) (i : Nat) : byt (dskS seed i) := byt_m
structure RowB (w : World) (g L : Nat) (bt : Nat → Int) : Prop where
 ex : ∃ cur, w.heap[g]? = some (.cells cur 5 (0, 0)) ∧ cur.size = L ∧ ∀ j, j < L → cur[j]? = some (.int .u8 (bt j))
theorem RowB.at {w : World} {g L : Nat} {bt : Nat → Int} (h : RowB w g L bt) : BytAt w (some ⟨g, 0, none⟩) L bt := fun j hj => by
 obtain ⟨cur, h1, h2, h3⟩ := h.ex
 exact ⟨g, 0, rfl, heap_lt h1, by rw [cell_at h1, Nat.zero_add]; exact h3 j hj⟩
theorem RowB.kept {S : Nat → Prop} {w w' : World} {g L : Nat} {bt : Nat → Int} (h : RowB w g L bt) (k : Kp S w w') (hS : ¬ S g) : RowB w' g L bt := by
 obtain ⟨cur, h1, h2⟩ := h.ex
 exact ⟨cur, heap_kept h1 k hS, h2⟩
theorem RowB.cell {w : World} {g L : Nat} {bt : Nat → Int} (h : RowB w g L bt) {j : Nat} (hj : j < L) : w.cell? ⟨g, j, none⟩ = some (.int .u8 (bt j)) := by
 obtain ⟨cur, h1, h2, h3⟩ := h.ex
 rw [cell_at h1]
 exact h3 j hj
theorem RowB.fz {w : World} {g L : Nat} {bt : Nat → Int} (h : RowB w g L bt) (j : Nat) : w.frozen? ⟨g, j, none⟩ = false := by
 obtain ⟨cur, h1, h2, h3⟩ := h.ex
 exact frozen_at h1
theorem RowB.set {w : World} {g L : Nat} {bt : Nat → Int} (h : RowB w g L bt) (k : Nat) (x : Int) : RowB (w.setCell ⟨g, k, none⟩ (.int .u8 x)) g L (setB bt k x) := by
 obtain ⟨cur, h1, h2, h3⟩ := h.ex
 refine ⟨_, heap_set h1, by rw [Array.size_setIfInBounds]; exact h2, fun j hj => ?_⟩
 rw [Array.getElem?_setIfInBounds]
 unfold setB
 by_cases e : k = j
 ·subst e
  rw [if_pos rfl, if_pos (by omega), if_pos rfl]
 ·rw [if_neg e, if_neg (by omega)]
  exact h3 j hj
theorem RowB.of {w : World} {g L : Nat} {bt bt' : Nat → Int} (h : RowB w g L bt) (e : ∀ j, j < L → bt j = bt' j) : RowB w g L bt' := by
 obtain ⟨cur, h1, h2, h3⟩ := h.ex
 exact ⟨cur, h1, h2, fun j hj => by rw [h3 j hj, e j hj]⟩
theorem DskPost.row {w w' : World} {d : Id} (h : DskPost w d w') : RowB w' w.heap.size (512 * d.n) d.D := by
 obtain ⟨h1, _, cur, h3, h4⟩ := h
 refine ⟨cur, h3, h4, fun j hj => ?_⟩
 obtain ⟨b, o, e, _, hc⟩ := h1 j hj
 injection e with e
 injection e with e1 e2
 subst e1; subst e2
 rw [cell_at h3, Nat.zero_add] at hc
 exact hc
theorem made_row (w : World) (n : Nat) : RowB (w.alloc (.cells (made8 n) 5)) w.heap.size n (fun _ => 0) :=
 ⟨_, heap_new _ _, (made8_at n).1, (made8_at n).2⟩
set_option maxHeartbeats 1000000 in
theorem lDisk_any (w : World) (s seed : Int) (s0 : -9223372036854775808 ≤ s) (s1 : s ≤ 9223372036854775807) (hs : byt seed) : Calls Tryz.prog 17 #[.int .i64 s, .int .u8 seed] w fun e w' => e = .returned (.slice (some ⟨w.heap.size, 0, none⟩) (512 * secN s) (512 * secN s)) ∧ RowB w' w.heap.size (512 * secN s) (dskS seed) ∧ Kp noB w w' := by
 obtain ⟨m, hm⟩ : ∃ m, m = secN s := ⟨_, rfl⟩
 have m5 := secN_lt s
 rw [← hm] at m5 ⊢
 have hmk : ∀ w, _ := fun w => make8 w (512 * m) (by omega)
 have em : ((512 * m : Nat) : Int) = (m : Int) * 512 := by omega
 rw [em] at hmk
 have hw : IntKind.i64.wrap ((m : Int) * 512) = (m : Int) * 512 := by rw [IntKind.wrap_i64]; omega
 have r0 : Hid (RowB (w.alloc (.cells (made8 (512 * m)) 5)) w.heap.size (512 * m) (fun _ => 0)) := made_row w (512 * m)
 have k0 : Hid (Kp noB w (w.alloc (.cells (made8 (512 * m)) 5))) := Kp.alloc _ _ _
 obtain ⟨h0, h1⟩ := hs
 have hq : foldN s % 5 = m := by rw [hm]; unfold secN foldN; split <;> omega
 clear hm
 have hw2 : wrap64 ((m : Int) * 512) = (m : Int) * 512 := IntWalk.wrap64_in _ ⟨by omega, by omega⟩
 by_cases neg : s < 0
 ·have hf : -((s + 1).tmod 5) = m := by
   unfold foldN at hq
   rw [if_pos neg] at hq
   rw [← Int.neg_tmod, Int.tmod_eq_emod_of_nonneg (by omega)]
   exact hq
  clear hq
  go_enter Tryz.func17, Tryz.ntmps17
  go_wp2
  generalize w.alloc (.cells (made8 (512 * m)) 5) = w0 at r0 k0 ⊢
  clear hmk
  go_loopw [6] (fun s6 wr => ∃ i : Nat, i ≤ 512 * m ∧ s6 = .int .i64 i ∧ RowB wr w.heap.size (512 * m) (fun j => if j < i then dskS seed j else 0) ∧ Kp noB w wr) (fun s6 _ => 512 * m - (intOf s6).toNat)
  case atStart => exact ⟨0, by omega, rfl, r0.out.of (fun j hj => by rw [if_neg (by omega)]), k0.out⟩
  case round =>
   clear r0 k0
   obtain ⟨i, hi, rfl, hr, kr⟩ := hrel
   by_cases hiL : i < 512 * m
   ·have c1 := hr.cell hiL
    have z1 := hr.fz i
    have hlt : (i : Int) < ((512 * m : Nat) : Int) := by omega
    have H : Hid (RowB (wr.setCell ⟨w.heap.size, i, none⟩ (.int .u8 (dskS seed i))) w.heap.size (512 * m) (fun j => if j < i + 1 then dskS seed j else 0) ∧ Kp noB w (wr.setCell ⟨w.heap.size, i, none⟩ (.int .u8 (dskS seed i)))) := by
     refine ⟨(hr.set i (dskS seed i)).of (fun j hj => ?_), kr.over (kpB w.heap.size _ _ _) (fun j hj (e : j = _) => by omega)⟩
     unfold setB
     by_cases e : j = i
     ·subst e
      rw [if_pos rfl, if_pos (by omega)]
     ·rw [if_neg e]
      show (if j < i then dskS seed j else 0) = _
      by_cases e2 : j < i
      ·rw [if_pos e2, if_pos (by omega)]
      ·rw [if_neg e2, if_neg (by omega)]
    clear hr kr
    go_wp2
    go_roundw
    case rel => exact ⟨i + 1, by omega, by go_num, H.out.1, H.out.2⟩
    case measure => simp [intOf]; omega
   ·have e : i = 512 * m := by omega
    subst e
    have H : Hid (RowB wr w.heap.size (512 * m) (dskS seed) ∧ Kp noB w wr) := ⟨hr.of (fun j hj => by rw [if_pos hj]), kr⟩
    clear hr kr
    go_wp2
    go_ret
    exact ⟨rfl, H.out⟩
 ·have hf : s % 5 = m := by unfold foldN at hq; rw [if_neg neg] at hq; exact hq
  clear hq
  go_enter Tryz.func17, Tryz.ntmps17
  go_wp2
  generalize w.alloc (.cells (made8 (512 * m)) 5) = w0 at r0 k0 ⊢
  clear hmk
  go_loopw [6] (fun s6 wr => ∃ i : Nat, i ≤ 512 * m ∧ s6 = .int .i64 i ∧ RowB wr w.heap.size (512 * m) (fun j => if j < i then dskS seed j else 0) ∧ Kp noB w wr) (fun s6 _ => 512 * m - (intOf s6).toNat)
  case atStart => exact ⟨0, by omega, rfl, r0.out.of (fun j hj => by rw [if_neg (by omega)]), k0.out⟩
  case round =>
   clear r0 k0
   obtain ⟨i, hi, rfl, hr, kr⟩ := hrel
   by_cases hiL : i < 512 * m
   ·have c1 := hr.cell hiL
    have z1 := hr.fz i
    have hlt : (i : Int) < ((512 * m : Nat) : Int) := by omega
    have H : Hid (RowB (wr.setCell ⟨w.heap.size, i, none⟩ (.int .u8 (dskS seed i))) w.heap.size (512 * m) (fun j => if j < i + 1 then dskS seed j else 0) ∧ Kp noB w (wr.setCell ⟨w.heap.size, i, none⟩ (.int .u8 (dskS seed i)))) := by
     refine ⟨(hr.set i (dskS seed i)).of (fun j hj => ?_), kr.over (kpB w.heap.size _ _ _) (fun j hj (e : j = _) => by omega)⟩
     unfold setB
     by_cases e : j = i
     ·subst e
      rw [if_pos rfl, if_pos (by omega)]
     ·rw [if_neg e]
      show (if j < i then dskS seed j else 0) = _
      by_cases e2 : j < i
      ·rw [if_pos e2, if_pos (by omega)]
      ·rw [if_neg e2, if_neg (by omega)]
    clear hr kr
    go_wp2
    go_roundw
    case rel => exact ⟨i + 1, by omega, by go_num, H.out.1, H.out.2⟩
    case measure => simp [intOf]; omega
   ·have e : i = 512 * m := by omega
    subst e
    have H : Hid (RowB wr w.heap.size (512 * m) (dskS seed) ∧ Kp noB w wr) := ⟨hr.of (fun j hj => by rw [if_pos hj]), kr⟩
    clear hr kr
    go_wp2
    go_ret
    exact ⟨rfl, H.out⟩
theorem spotless {w : World} {b o : Nat} {sp : Option Nat} {v : Value} (h : w.cell? ⟨b, o, sp⟩ = some v) : sp = none := by
 cases sp with
 | none => rfl
 | some x =>
  unfold World.cell? at h
  split at h <;> simp at h
theorem spot_of2 {w : World} {base blk off K : Nat} {sp : Option Nat} {cs : List Value} (h : w.cells? base ((⟨blk, off, sp⟩ : Addr).add (0 * K)) K = some cs) (hK : 0 < K) : sp = none := by
 obtain ⟨_, hl, hg⟩ := World.cells?_some h
 have h0 := hg 0 hK
 have hl1 : 0 < cs.length := by rw [hl]; exact hK
 rw [List.getElem?_eq_getElem hl1, Nat.zero_mul] at h0
 exact spotless (w := w) (b := blk) (o := off) h0
theorem add_plain (blk off n : Nat) : (⟨blk, off, none⟩ : Addr).add n = ⟨blk, off + n, none⟩ := by
 unfold Addr.add
 split
 ·rename_i hz
  rw [hz]
  rfl
 ·rfl
structure BytIn (w : World) (a : Option Addr) (L : Nat) (bt : Nat → Int) : Prop where
 at' : BytAt w a L bt
 bd : ∀ j, j < L → 0 ≤ bt j ∧ bt j < 256
 le : L ≤ 140737488351232
theorem bytesIn {H : Type} {enc : TypeId × Value → H} {w : World} {fuel : Nat} {a : Option Addr} {len cap : Nat} {d : DataW H} {p : List MemPlace} (h : DataW.trod enc Tryz.prog w 0 (fun _ => true) true fuel 22 (Value.slice a len cap).cells.toList = some (d, p))
  (hz : ∀ elems spare, d = .slice elems spare → (elems.length + spare.length) * Tryz.prog.bytesOf 5 ≤ reachBytes) : ∃ bt, BytIn w a len bt := by
 rcases open_ints Tryz.underlying22 Tryz.underlying5 (by kernel_rfl) h with ⟨hcs, _⟩ | ⟨y, l, c, zs, hcs, _, hl, hm, hzl, hx, hcell, hwz⟩
 ·simp [Value.cells] at hcs
  obtain ⟨rfl, rfl, rfl⟩ := hcs
  exact ⟨fun _ => 0, fun j hj => absurd hj (by simp), fun j hj => absurd hj (by simp), by simp⟩
 ·simp [Value.cells] at hcs
  obtain ⟨rfl, rfl, rfl⟩ := hcs
  have hz' : zs.length = cap := by simpa using hzl
  injection hx with hd hp
  have hs := hz _ _ hd
  have hb : Tryz.prog.bytesOf 5 = 1 := by kernel_rfl
  have hr : reachBytes = 140737488351232 := rfl
  have hlen : len ≤ 140737488351232 := by
   rw [hb] at hs
   have e : (lits (H := H) .u8 (List.take len zs)).length = len := by unfold lits; rw [List.length_map, List.length_take]; omega
   rw [e] at hs
   omega
  refine ⟨fun j => zs.getD j 0, fun j hj => ?_, fun j hj => ?_, hlen⟩
  ·obtain ⟨b, off, rfl, hc⟩ := ints_at hcell (by omega)
   have := hc j (by omega)
   exact ⟨b, off, rfl, cell_below this, this⟩
  ·have hj' : j < zs.length := by omega
   have e : zs.getD j 0 ∈ zs := by rw [List.getD_eq_getElem?_getD, List.getElem?_eq_getElem hj']; exact List.getElem_mem hj'
   have := bounds_u8 (hwz _ e)
   omega
end Go.Proofs.YtonfjhbfkichkaaGreat.Dk
namespace Go.Proofs.YtonfjhbfkichkaaGreat.Dk
open Go.RowKit
set_option linter.unusedVariables false
def Id.sector (d : Id) (k p : Int) : Id := (((((d.out 6 1 64).out 5 1 0).out 4 1 0).out 3 1 p).out 2 1 1).out 7 1 k
open Go.ChangeShapes Go.WideShapes Go.ChangeAt
set_option maxRecDepth 20000
def sg (bt : Nat → Int) (i n : Nat) : List Int := (List.range' i n).map bt
theorem sg_len (bt : Nat → Int) (i n : Nat) : (sg bt i n).length = n := by simp [sg]
theorem sg_get (bt : Nat → Int) {n j : Nat} (h : j < n) : (sg bt 0 n).getD j 0 = bt j := by
 unfold sg
 rw [List.getD_eq_getElem?_getD, List.getElem?_map, List.getElem?_range' h]
 simp
def StrAt (w : World) (v : Value) (l : List Int) : Prop := (convert 22 9 v).run Tryz.prog w = .ok (.string (strOfNums l)) w
theorem BytAt.str {w : World} {a : Option Addr} {L c : Nat} {bt : Nat → Int} (h : BytAt w a L bt) : StrAt w (.slice a L c) (sg bt 0 L) := by
 unfold StrAt
 cases L with
 | zero =>
  cases a with
  | none => exact run_convert_bytes_nil w _ 5 Tryz.underlying22 Tryz.underlying5 0 c _ Tryz.underlying9
  | some x =>
   rw [run_convert_bytes_string w _ _ 5 _ _ _ Tryz.underlying22 Tryz.underlying5 Tryz.underlying9, run_bytesToString w x 0 c [] (by simpa using run_loadCells_list (P := Tryz.prog) w x [] (fun j v hv => by simp at hv))]
   rfl
 | succ L =>
  obtain ⟨b, o, rfl, hb, hc⟩ := h 0 (by omega)
  refine run_convert_bytes_arg w _ 5 Tryz.underlying22 Tryz.underlying5 b o (L + 1) c _ (sg_len _ _ _) (fun i hi => ?_) _ Tryz.underlying9
  obtain ⟨b', o', e, hb, hc⟩ := h i hi
  injection e with e
  injection e with e1 e2
  subst e1; subst e2
  rw [sg_get bt hi]
  exact hc
def strR (L : Nat) (bt : Nat → Int) : List Int := sg bt 0 L
theorem RowB.str {w : World} {g L c : Nat} {bt : Nat → Int} (h : RowB w g L bt) : StrAt w (.slice (some ⟨g, 0, none⟩) L c) (strR L bt) := h.at.str
def IntAt (w : World) (p : Option Addr) (l : List Int) : Prop := ∀ i, i < l.length → ∃ g o, p = some ⟨g, o, none⟩ ∧ w.cell? ⟨g, o + i, none⟩ = some (.int .i64 (l.getD i 0))
theorem OwnI.at {w : World} {p : Option Addr} {n c : Nat} {l : List Int} (h : OwnI w (.slice p n c) l) : IntAt w p l := fun i hi => by
 rcases h.2 with ⟨e, h2⟩ | ⟨g, cap, cur, e, hb, hg, hc, hm, hsz, ht⟩
 ·omega
 ·injection e with e1 e2 e3
  subst e1
  refine ⟨g, 0, rfl, ?_⟩
  rw [cell_of_row _ _ _ _ _ _ hg, Nat.zero_add]
  have e := congrArg (fun L : List Value => L[i]?) ht
  simp only [Nat.mul_one] at e
  rw [List.getElem?_take_of_lt hi, List.getElem?_map, List.getElem?_eq_getElem hi] at e
  rw [← Array.getElem?_toList, e, List.getD_eq_getElem?_getD, List.getElem?_eq_getElem hi]
  rfl
set_option maxHeartbeats 1000000 in
theorem same_ok (w : World) (p q : Option Addr) (c e : Nat) (l : List Int) (hp : IntAt w p l) (hq : IntAt w q l) (hl : l.length < 4611686018427387904) : Calls Tryz.prog 46 #[.slice p l.length c, .slice q l.length e] w fun r w' => r = .returned (.bool true) ∧ Kp noB w w' := by
 have HP : Hid (IntAt w p l) := hp
 have HQ : Hid (IntAt w q l) := hq
 obtain ⟨n, hn⟩ : ∃ n, n = l.length := ⟨_, rfl⟩
 rw [← hn] at hl ⊢
 have HL : Hid (n = l.length) := hn
 clear hp hq hn
 go_enter Tryz.func46, Tryz.ntmps46
 go_wp2
 go_loopw [5] (fun s5 wr => ∃ i : Nat, i ≤ n ∧ s5 = .int .i64 i ∧ Kp noB w wr) (fun s5 _ => n - (intOf s5).toNat)
 case atStart => exact ⟨0, by omega, rfl, Kp.refl _ _⟩
 case round =>
  obtain ⟨i, hi, rfl, kr⟩ := hrel
  have K : Hid (Kp noB w wr) := kr
  clear kr
  by_cases hlt : i < n
  ·obtain ⟨g, o, rfl, h1⟩ := HP.out i (by have := HL.out; omega)
   obtain ⟨g', o', rfl, h2⟩ := HQ.out i (by have := HL.out; omega)
   have c1 := cell_kept h1 K.out id
   have c2 := cell_kept h2 K.out id
   have hlt' : (i : Int) < (n : Int) := by omega
   generalize l.getD i 0 = y at *
   clear h1 h2
   go_wp2
   go_quiet (fail)
   go_wp2
   go_roundw
   case rel => exact ⟨i + 1, by omega, by go_num, K.out.drewN _⟩
   case measure => simp [intOf]; omega
  ·have e : i = n := by omega
   subst e
   go_wp2
   go_ret
   exact ⟨rfl, K.out⟩
def xC (Dv : Value) (R : Nat → Int) (c : Int) (buf : Nat → Int) (dn mo : Int) (mk fl : Bool) (sv : Value) (k : Nat) : Value :=
 if k = 0 then Dv else if k < 8 then .int .u8 (R (k - 1)) else if k = 8 then .int .u8 c else if k < 521 then .int .u8 (buf (k - 9)) else if k = 521 then .int .i64 dn else if k = 522 then .int .i64 mo else if k = 523 then .bool mk else if k = 524 then .bool fl else sv
def YAt (w : World) (B : Nat) (f : Nat → Value) : Prop := ∃ cur : Array Value, w.heap[B]? = some (.cells cur 106 (0, 0)) ∧ cur.size = 526 ∧ ∀ k, k < 526 → cur[k]? = some (f k)
section
variable {w w' : World} {B : Nat} {f : Nat → Value}
theorem YAt.kept {S : Nat → Prop} (h : YAt w B f) (k : Kp S w w') (hS : ¬ S B) : YAt w' B f := by
 obtain ⟨cur, h1, h2⟩ := h
 exact ⟨cur, heap_kept h1 k hS, h2⟩
theorem YAt.lt (h : YAt w B f) : B < w.heap.size := by
 obtain ⟨cur, h1, h2⟩ := h
 exact heap_lt h1
theorem YAt.cell (h : YAt w B f) (k : Nat) (hk : k < 526) : w.cell? ⟨B, k, none⟩ = some (f k) := by
 obtain ⟨cur, h1, h2, h3⟩ := h
 rw [cell_at h1]
 exact h3 k hk
theorem YAt.fz (h : YAt w B f) (k : Nat) : w.frozen? ⟨B, k, none⟩ = false := by
 obtain ⟨cur, h1, h2, h3⟩ := h
 exact frozen_at h1
theorem YAt.of (h : YAt w B f) {g : Nat → Value} (e : ∀ k, k < 526 → f k = g k) : YAt w B g := by
 obtain ⟨cur, h1, h2, h3⟩ := h
 exact ⟨cur, h1, h2, fun k hk => by rw [h3 k hk, e k hk]⟩
theorem YAt.set (h : YAt w B f) (k : Nat) (hk : k < 526) (v : Value) : YAt (w.setCell ⟨B, k, none⟩ v) B (fun j => if j = k then v else f j) := by
 obtain ⟨cur, h1, h2, h3⟩ := h
 refine ⟨_, heap_set h1, by rw [Array.size_setIfInBounds]; exact h2, fun j hj => ?_⟩
 rw [Array.getElem?_setIfInBounds]
 by_cases e : k = j
 ·subst e
  rw [if_pos rfl, if_pos (by omega)]
  show some v = some (if k = k then v else f k)
  rw [if_pos rfl]
 ·rw [if_neg e]
  show cur[j]? = some (if j = k then v else f j)
  rw [if_neg (by omega)]
  exact h3 j hj
theorem YAt.laid (h : YAt w B f) {cur cur' : Array Value} (hb : w.heap[B]? = some (.cells cur 106 (0, 0))) (hb' : w'.heap[B]? = some (.cells cur' 106 (0, 0))) {o n : Nat} {g : Nat → Value} (hl : Laid cur cur' o n g) : YAt w' B (fun j => if o ≤ j ∧ j < o + n then g (j - o) else f j) := by
 obtain ⟨c0, h1, h2, h3⟩ := h
 rw [h1] at hb
 have e : c0 = cur := by injection hb with hb; injection hb
 subst e
 refine ⟨cur', hb', by rw [hl.1]; exact h2, fun j hj => ?_⟩
 rw [hl.2 j]
 by_cases e : o ≤ j ∧ j < o + n
 ·rw [if_pos e]
  show some (g (j - o)) = some (if o ≤ j ∧ j < o + n then g (j - o) else f j)
  rw [if_pos e]
 ·rw [if_neg e]
  show c0[j]? = some (if o ≤ j ∧ j < o + n then g (j - o) else f j)
  rw [if_neg e]
  exact h3 j hj
end
section
variable {Dv : Value} {R buf : Nat → Int} {c dn mo : Int} {mk fl : Bool} {sv : Value}
theorem xC_R {j : Nat} (h : j < 7) : xC Dv R c buf dn mo mk fl sv (1 + j) = .int .u8 (R j) := by
 unfold xC
 rw [if_neg (by omega), if_pos (by omega), show 1 + j - 1 = j by omega]
theorem xC_b {j : Nat} (h : j < 512) : xC Dv R c buf dn mo mk fl sv (9 + j) = .int .u8 (buf j) := by
 unfold xC
 rw [if_neg (by omega), if_neg (by omega), if_neg (by omega), if_pos (by omega), show 9 + j - 9 = j by omega]
theorem xC_setR {j : Nat} (h : j < 7) (x : Int) (k : Nat) : (if k = 1 + j then Value.int .u8 x else xC Dv R c buf dn mo mk fl sv k) = xC Dv (setB R j x) c buf dn mo mk fl sv k := by
 by_cases e : k = 1 + j
 ·subst e
  rw [if_pos rfl, xC_R h]
  unfold setB
  rw [if_pos rfl]
 ·rw [if_neg e]
  unfold xC setB
  repeat' split
  all_goals first | rfl | omega
theorem xC_setc (x : Int) (k : Nat) : (if k = 8 then Value.int .u8 x else xC Dv R c buf dn mo mk fl sv k) = xC Dv R x buf dn mo mk fl sv k := by
 by_cases e : k = 8
 ·subst e; rfl
 ·rw [if_neg e]; unfold xC; rw [if_neg e, if_neg e]
theorem xC_setdn (x : Int) (k : Nat) : (if k = 521 then Value.int .i64 x else xC Dv R c buf dn mo mk fl sv k) = xC Dv R c buf x mo mk fl sv k := by
 by_cases e : k = 521
 ·subst e; rfl
 ·rw [if_neg e]; unfold xC; rw [if_neg e, if_neg e]
theorem xC_setmo (x : Int) (k : Nat) : (if k = 522 then Value.int .i64 x else xC Dv R c buf dn mo mk fl sv k) = xC Dv R c buf dn x mk fl sv k := by
 by_cases e : k = 522
 ·subst e; rfl
 ·rw [if_neg e]; unfold xC; rw [if_neg e, if_neg e]
theorem xC_setmk (x : Bool) (k : Nat) : (if k = 523 then Value.bool x else xC Dv R c buf dn mo mk fl sv k) = xC Dv R c buf dn mo x fl sv k := by
 by_cases e : k = 523
 ·subst e; rfl
 ·rw [if_neg e]; unfold xC; rw [if_neg e, if_neg e]
theorem xC_setfl (x : Bool) (k : Nat) : (if k = 524 then Value.bool x else xC Dv R c buf dn mo mk fl sv k) = xC Dv R c buf dn mo mk x sv k := by
 by_cases e : k = 524
 ·subst e; rfl
 ·rw [if_neg e]; unfold xC; rw [if_neg e, if_neg e]
theorem xC_setsv (x : Value) (k : Nat) (hk : k < 526) : (if k = 525 then x else xC Dv R c buf dn mo mk fl sv k) = xC Dv R c buf dn mo mk fl x k := by
 by_cases e : k = 525
 ·subst e; rfl
 ·rw [if_neg e]
  unfold xC
  repeat' split
  all_goals first | rfl | omega
theorem xC_same {b' : Nat → Int} (h : ∀ i, i < 512 → buf i = b' i) (k : Nat) : xC Dv R c buf dn mo mk fl sv k = xC Dv R c b' dn mo mk fl sv k := by
 unfold xC
 by_cases a : k < 521
 ·by_cases b : 9 ≤ k
  ·rw [h _ (by omega)]
  ·repeat' split
   all_goals first | rfl | omega
 ·repeat' split
  all_goals first | rfl | omega
theorem xC_laybuf {o m : Nat} (h : o + m ≤ 512) (g : Nat → Int) (k : Nat) : (if 9 + o ≤ k ∧ k < 9 + o + m then Value.int .u8 (g (k - (9 + o))) else xC Dv R c buf dn mo mk fl sv k) = xC Dv R c (layB buf o m g) dn mo mk fl sv k := by
 by_cases e : 9 + o ≤ k ∧ k < 9 + o + m
 ·rw [if_pos e]
  obtain ⟨j, rfl⟩ : ∃ j, k = 9 + j := ⟨k - 9, by omega⟩
  rw [xC_b (by omega)]
  unfold layB
  rw [if_pos (by omega), show 9 + j - (9 + o) = j - o by omega]
 ·rw [if_neg e]
  by_cases q : 9 ≤ k ∧ k < 521
  ·obtain ⟨j, rfl⟩ : ∃ j, k = 9 + j := ⟨k - 9, by omega⟩
   rw [xC_b (by omega), xC_b (by omega)]
   unfold layB
   rw [if_neg (by omega)]
  ·unfold xC
   repeat' split
   all_goals first | rfl | omega
end
def DRow (w : World) (gD cap n : Nat) (D : Nat → Int) : Prop := ∃ cur, w.heap[gD]? = some (.cells cur 5 (0, 0)) ∧ 512 * n ≤ cur.size ∧ ∀ j, j < 512 * n → cur[j]? = some (.int .u8 (D j))
theorem DRow.kept {S : Nat → Prop} {w w' : World} {gD cap n : Nat} {D : Nat → Int} (h : DRow w gD cap n D) (k : Kp S w w') (hS : ¬ S gD) : DRow w' gD cap n D := by
 obtain ⟨cur, h1, h2⟩ := h
 exact ⟨cur, heap_kept h1 k hS, h2⟩
structure XAt (w : World) (B gD cap : Nat) (dn : Int) (sv : Value) (d : Id) : Prop where
 blk : YAt w B (xC (.slice (some ⟨gD, 0, none⟩) (512 * d.n) cap) d.reg d.c d.buf dn d.mode d.mark d.failed sv)
 row : DRow w gD cap d.n d.D
 le : 512 * d.n ≤ cap
 log : OwnI w sv d.log
structure XRaw (w : World) (B gD cap n : Nat) (sv : Value) (l : List Int) (D R buf : Nat → Int) (c dn mo : Int) (mk fl : Bool) : Prop where
 blk : YAt w B (xC (.slice (some ⟨gD, 0, none⟩) (512 * n) cap) R c buf dn mo mk fl sv)
 row : DRow w gD cap n D
 le : 512 * n ≤ cap
 log : OwnI w sv l
section
variable {w : World} {B gD cap n : Nat} {sv : Value} {l : List Int} {D R buf : Nat → Int} {c dn mo : Int} {mk fl : Bool}
theorem XRaw.notB (h : XRaw w B gD cap n sv l D R buf c dn mo mk fl) {g : Nat} (e : sv.ownBlock = some g) : ¬ isB B g := by
 rintro (rfl : g = B)
 obtain ⟨cur, h1⟩ := h.log.lt e
 obtain ⟨c, h2, _⟩ := h.blk
 rw [h1] at h2
 simp at h2
theorem XRaw.notD (h : XRaw w B gD cap n sv l D R buf c dn mo mk fl) : ¬ isB B gD := by
 rintro (e : gD = B)
 obtain ⟨cur, h1, _⟩ := h.row
 obtain ⟨c, h2, _⟩ := h.blk
 rw [e, h2] at h1
 simp at h1
theorem XRaw.notL (h : XRaw w B gD cap n sv l D R buf c dn mo mk fl) {g : Nat} (e : sv.ownBlock = some g) : ¬ isB gD g := by
 rintro (rfl : g = gD)
 obtain ⟨cur, h1⟩ := h.log.lt e
 obtain ⟨c, h2, _⟩ := h.row
 rw [h1] at h2
 simp at h2
theorem XRaw.kept {S : Nat → Prop} {w' : World} (h : XRaw w B gD cap n sv l D R buf c dn mo mk fl) (k : Kp S w w') (hB : ¬ S B) (hD : ¬ S gD) (hs : ∀ g, sv.ownBlock = some g → ¬ S g) : XRaw w' B gD cap n sv l D R buf c dn mo mk fl := ⟨h.blk.kept k hB, h.row.kept k hD, h.le, h.log.kept k hs⟩
theorem XRaw.keep {w' : World} (h : XRaw w B gD cap n sv l D R buf c dn mo mk fl) (k : Kp noB w w') : XRaw w' B gD cap n sv l D R buf c dn mo mk fl := h.kept k id id (fun _ _ => id)
theorem XRaw.own {w' : World} {f : Nat → Value} (h : XRaw w B gD cap n sv l D R buf c dn mo mk fl) (hb : YAt w' B f) (k : Kp (isB B) w w') {R' buf' : Nat → Int} {c' dn' mo' : Int} {mk' fl' : Bool} (e : ∀ k, k < 526 → f k = xC (.slice (some ⟨gD, 0, none⟩) (512 * n) cap) R' c' buf' dn' mo' mk' fl' sv k) : XRaw w' B gD cap n sv l D R' buf' c' dn' mo' mk' fl' :=
 ⟨hb.of e, h.row.kept k h.notD, h.le, h.log.kept k (fun g e => h.notB e)⟩
theorem XRaw.setR (h : XRaw w B gD cap n sv l D R buf c dn mo mk fl) (j : Nat) (hj : j < 7) (k : Nat) (hk : k = 1 + j) (x : Int) : XRaw (w.setCell ⟨B, k, none⟩ (.int .u8 x)) B gD cap n sv l D (setB R j x) buf c dn mo mk fl := by
 subst hk
 exact h.own (h.blk.set _ (by omega) _) (kpB B _ _ _) (fun i hi => xC_setR hj x i)
theorem XRaw.setc (h : XRaw w B gD cap n sv l D R buf c dn mo mk fl) (x : Int) : XRaw (w.setCell ⟨B, 8, none⟩ (.int .u8 x)) B gD cap n sv l D R buf x dn mo mk fl :=
 h.own (h.blk.set _ (by decide) _) (kpB B _ _ _) (fun i hi => xC_setc x i)
theorem XRaw.setdn (h : XRaw w B gD cap n sv l D R buf c dn mo mk fl) (x : Int) : XRaw (w.setCell ⟨B, 521, none⟩ (.int .i64 x)) B gD cap n sv l D R buf c x mo mk fl :=
 h.own (h.blk.set _ (by decide) _) (kpB B _ _ _) (fun i hi => xC_setdn x i)
theorem XRaw.setmo (h : XRaw w B gD cap n sv l D R buf c dn mo mk fl) (x : Int) : XRaw (w.setCell ⟨B, 522, none⟩ (.int .i64 x)) B gD cap n sv l D R buf c dn x mk fl :=
 h.own (h.blk.set _ (by decide) _) (kpB B _ _ _) (fun i hi => xC_setmo x i)
theorem XRaw.setmk (h : XRaw w B gD cap n sv l D R buf c dn mo mk fl) (x : Bool) : XRaw (w.setCell ⟨B, 523, none⟩ (.bool x)) B gD cap n sv l D R buf c dn mo x fl :=
 h.own (h.blk.set _ (by decide) _) (kpB B _ _ _) (fun i hi => xC_setmk x i)
theorem XRaw.setfl (h : XRaw w B gD cap n sv l D R buf c dn mo mk fl) (x : Bool) : XRaw (w.setCell ⟨B, 524, none⟩ (.bool x)) B gD cap n sv l D R buf c dn mo mk x :=
 h.own (h.blk.set _ (by decide) _) (kpB B _ _ _) (fun i hi => xC_setfl x i)
theorem XRaw.setb (h : XRaw w B gD cap n sv l D R buf c dn mo mk fl) (j : Nat) (hj : j < 512) (x : Int) : XRaw (w.setCell ⟨B, 9 + j, none⟩ (.int .u8 x)) B gD cap n sv l D R (setB buf j x) c dn mo mk fl :=
 h.own (h.blk.set _ (by omega) _) (kpB B _ _ _) (fun i hi => by
  have e : setB buf j x = layB buf j 1 (fun _ => x) := by
   funext q
   unfold setB layB
   by_cases a : q = j
   ·rw [if_pos a, if_pos (by omega)]
   ·rw [if_neg a, if_neg (by omega)]
  rw [e, ← xC_laybuf (by omega)]
  by_cases a : i = 9 + j
  ·rw [if_pos a, if_pos (by omega)]
  ·rw [if_neg a, if_neg (by omega)])
theorem XRaw.same {b' : Nat → Int} (h : XRaw w B gD cap n sv l D R buf c dn mo mk fl) (e : ∀ i, i < 512 → buf i = b' i) : XRaw w B gD cap n sv l D R b' c dn mo mk fl := ⟨h.blk.of (fun k hk => xC_same e k), h.row, h.le, h.log⟩
theorem XRaw.setsv (h : XRaw w B gD cap n sv l D R buf c dn mo mk fl) (x : Value) (l' : List Int) (hx : OwnI w x l') : XRaw (w.setCell ⟨B, 525, none⟩ x) B gD cap n x l' D R buf c dn mo mk fl :=
 ⟨(h.blk.set _ (by decide) _).of (fun i hi => xC_setsv x i hi), h.row.kept (kpB B _ _ _) h.notD, h.le, hx.kept (kpB B _ _ _) (fun g e => by
  rintro (rfl : g = B)
  obtain ⟨cur, h1⟩ := hx.lt e
  obtain ⟨c, h2, _⟩ := h.blk
  rw [h1] at h2
  simp at h2)⟩
theorem XRaw.setD (h : XRaw w B gD cap n sv l D R buf c dn mo mk fl) (j : Nat) (x : Int) : XRaw (w.setCell ⟨gD, j, none⟩ (.int .u8 x)) B gD cap n sv l (setB D j x) R buf c dn mo mk fl := by
 refine ⟨h.blk.kept (kpB gD _ _ _) (fun e : B = gD => h.notD e.symm), ?_, h.le, h.log.kept (kpB gD _ _ _) (fun g e => h.notL e)⟩
 obtain ⟨cur, h1, h2, h3⟩ := h.row
 refine ⟨_, heap_set h1, by rw [Array.size_setIfInBounds]; exact h2, fun i hi => ?_⟩
 rw [Array.getElem?_setIfInBounds]
 unfold setB
 by_cases e : j = i
 ·subst e
  rw [if_pos rfl, if_pos (by omega), if_pos rfl]
 ·rw [if_neg e, if_neg (by omega)]
  exact h3 i hi
end
section
variable {w : World} {B gD cap : Nat} {dn : Int} {sv : Value} {d : Id}
theorem XAt.raw (h : XAt w B gD cap dn sv d) : XRaw w B gD cap d.n sv d.log d.D d.reg d.buf d.c dn d.mode d.mark d.failed := ⟨h.blk, h.row, h.le, h.log⟩
theorem XRaw.id {n : Nat} {l : List Int} {D R buf : Nat → Int} {c mo : Int} {mk fl : Bool} (h : XRaw w B gD cap n sv l D R buf c dn mo mk fl) (d : Id) (hl : l = d.log) (hD : D = d.D) (hn : n = d.n) (hR : ∀ j, j < 7 → R j = d.reg j) (hb : buf = d.buf) (hc : c = d.c) (hg : mo = d.mode) (hm : mk = d.mark) (hf : fl = d.failed) : XAt w B gD cap dn sv d := by
 subst hl; subst hD; subst hn; subst hb; subst hc; subst hg; subst hm; subst hf
 refine ⟨h.blk.of fun k hk => ?_, h.row, h.le, h.log⟩
 by_cases q : 1 ≤ k ∧ k < 8
 ·obtain ⟨j, rfl⟩ : ∃ j, k = 1 + j := ⟨k - 1, by omega⟩
  rw [xC_R (by omega), xC_R (by omega), hR j (by omega)]
 ·unfold xC
  repeat' split
  all_goals first | rfl | omega
theorem XAt.keep {w' : World} (h : XAt w B gD cap dn sv d) (k : Kp noB w w') : XAt w' B gD cap dn sv d := ⟨h.blk.kept k id, h.row.kept k id, h.le, h.log.kept k (fun _ _ => id)⟩
theorem XAt.lt (h : XAt w B gD cap dn sv d) : B < w.heap.size := h.blk.lt
theorem XAt.fz (h : XAt w B gD cap dn sv d) (k : Nat) : w.frozen? ⟨B, k, none⟩ = false := h.blk.fz k
theorem XAt.c0 (h : XAt w B gD cap dn sv d) : w.cell? ⟨B, 0, none⟩ = some (.slice (some ⟨gD, 0, none⟩) (512 * d.n) cap) := h.blk.cell 0 (by decide)
theorem XAt.cr (h : XAt w B gD cap dn sv d) (j : Nat) (hj : j < 7) : w.cell? ⟨B, 1 + j, none⟩ = some (.int .u8 (d.reg j)) := by rw [h.blk.cell _ (by omega), xC_R hj]
theorem XAt.r0 (h : XAt w B gD cap dn sv d) : w.cell? ⟨B, 1, none⟩ = some (.int .u8 0) := h.cr 0 (by decide)
theorem XAt.r1 (h : XAt w B gD cap dn sv d) : w.cell? ⟨B, 2, none⟩ = some (.int .u8 d.r1) := h.cr 1 (by decide)
theorem XAt.r2 (h : XAt w B gD cap dn sv d) : w.cell? ⟨B, 3, none⟩ = some (.int .u8 d.r2) := h.cr 2 (by decide)
theorem XAt.r3 (h : XAt w B gD cap dn sv d) : w.cell? ⟨B, 4, none⟩ = some (.int .u8 d.r3) := h.cr 3 (by decide)
theorem XAt.r4 (h : XAt w B gD cap dn sv d) : w.cell? ⟨B, 5, none⟩ = some (.int .u8 d.r4) := h.cr 4 (by decide)
theorem XAt.r5 (h : XAt w B gD cap dn sv d) : w.cell? ⟨B, 6, none⟩ = some (.int .u8 d.r5) := h.cr 5 (by decide)
theorem XAt.r6 (h : XAt w B gD cap dn sv d) : w.cell? ⟨B, 7, none⟩ = some (.int .u8 d.r6) := h.cr 6 (by decide)
theorem XAt.cc (h : XAt w B gD cap dn sv d) : w.cell? ⟨B, 8, none⟩ = some (.int .u8 d.c) := h.blk.cell 8 (by decide)
theorem XAt.cb (h : XAt w B gD cap dn sv d) (j : Nat) (hj : j < 512) : w.cell? ⟨B, 9 + j, none⟩ = some (.int .u8 (d.buf j)) := by rw [h.blk.cell _ (by omega), xC_b hj]
theorem XAt.cdn (h : XAt w B gD cap dn sv d) : w.cell? ⟨B, 521, none⟩ = some (.int .i64 dn) := h.blk.cell 521 (by decide)
theorem XAt.cmo (h : XAt w B gD cap dn sv d) : w.cell? ⟨B, 522, none⟩ = some (.int .i64 d.mode) := h.blk.cell 522 (by decide)
theorem XAt.cmk (h : XAt w B gD cap dn sv d) : w.cell? ⟨B, 523, none⟩ = some (.bool d.mark) := h.blk.cell 523 (by decide)
theorem XAt.cfl (h : XAt w B gD cap dn sv d) : w.cell? ⟨B, 524, none⟩ = some (.bool d.failed) := h.blk.cell 524 (by decide)
theorem XAt.csv (h : XAt w B gD cap dn sv d) : w.cell? ⟨B, 525, none⟩ = some sv := h.blk.cell 525 (by decide)
end
def XOk (w : World) (B gD cap : Nat) (sv : Value) (d : Id) (w' : World) : Prop := ∃ dn', XAt w' B gD cap dn' sv d ∧ Dn d dn' ∧ Kp (isB B) w w'
def footX (B gD : Nat) (sv : Value) (k : Nat) : Prop := k = B ∨ k = gD ∨ sv.ownBlock = some k
def XOut (w : World) (B gD cap : Nat) (sv : Value) (d : Id) (w' : World) : Prop :=
 ∃ dn' sv', XAt w' B gD cap dn' sv' d ∧ Dn d dn' ∧ (∀ k, footX B gD sv' k → footX B gD sv k ∨ w.heap.size ≤ k) ∧ Kp (footX B gD sv) w w'
section
variable {w : World} {B gD cap : Nat} {dn : Int} {sv : Value} {d : Id}
theorem xplace_any (h : XAt w B gD cap dn sv d) (k : d.Ok) : Calls Tryz.prog 155 #[.pointer (some ⟨B, 0, none⟩)] w fun e w' => e = .returned (.int .i64 d.place) ∧ ∃ n, w' = w.drewN n := by
 have c3 := h.r3
 have c4 := h.r4
 have c5 := h.r5
 have c6 := h.r6
 obtain ⟨a0, a1⟩ := k.r3
 obtain ⟨b0, b1⟩ := k.r4
 obtain ⟨f0, f1⟩ := k.r5
 obtain ⟨q0, q1⟩ := k.r6
 clear h k
 unfold Id.place
 generalize d.r6 = q at *
 generalize d.r3 = a at *
 generalize d.r4 = b at *
 generalize d.r5 = f at *
 go_enter Tryz.func155, Tryz.ntmps155
 go_wp2
 go_quiet (fail)
 go_wp2
 go_ret
 exact ⟨rfl, _, rfl⟩
theorem drewN_kp (w : World) (n : Nat) : Kp noB w (w.drewN n) := (Kp.refl _ _).drewN n
theorem xthere_any (h : XAt w B gD cap dn sv d) (k : d.Ok) : Calls Tryz.prog 153 #[.pointer (some ⟨B, 0, none⟩)] w fun e w' => e = .returned (.bool d.there) ∧ Kp noB w w' := by
 have HP : Hid (∀ n, Calls Tryz.prog 155 #[.pointer (some ⟨B, 0, none⟩)] (w.drewN n) fun e w' => e = .returned (.int .i64 d.place) ∧ ∃ m, w' = (w.drewN n).drewN m) := fun n => xplace_any (h.keep (drewN_kp w n)) k
 have c0 := h.c0
 have p := k.place
 have f := k.few
 have e : decide ((d.place + 1) * 512 ≤ ((512 * d.n : Nat) : Int)) = d.there := by
  unfold Id.there
  rw [decide_eq_decide]
  omega
 generalize d.place = P at *
 generalize d.there = T at *
 have hS : Hid (w.drew.cell? ⟨B, 0, none⟩ = some (.slice (some ⟨gD, 0, none⟩) (512 * d.n) cap)) := c0
 have HQ : Hid (Calls Tryz.prog 155 #[.pointer (some ⟨B, 0, none⟩)] w.drew fun e w' => e = .returned (.int .i64 P) ∧ ∃ m, w' = w.drew.drewN m) := HP.out 1
 have HC : Hid (∀ m, (w.drew.drewN m).cell? ⟨B, 0, none⟩ = some (.slice (some ⟨gD, 0, none⟩) (512 * d.n) cap)) := fun m => c0
 clear h k HP
 generalize d.n = N at *
 go_enter Tryz.func153, Tryz.ntmps153
 go_wp2
 go_region_held3 (fun W' => W'.cell? ⟨B, 0, none⟩ = some (.slice (some ⟨gD, 0, none⟩) (512 * N) cap))
  (first | exact hS.out | exact HC.out _ | assumption)
  (first
   | (go_at_call 155; refine Calls.mono HQ.out ?_; rintro e z5 ⟨rfl, m, rfl⟩))
 all_goals
  go_wp2
  go_ret
  refine ⟨ret_bool ?_, drewN_kp w _⟩
  rw [← e, decide_eq_decide, IntKind.wrap_i64, IntKind.wrap_i64]
  omega
theorem xfail_ok (h : XAt w B gD cap dn sv d) (x : Int) : Calls Tryz.prog 154 #[.pointer (some ⟨B, 0, none⟩), .int .u8 x] w fun e w' => e = .returned (.tuple #[]) ∧ XOk w B gD cap sv (d.fail x) w' := by
 have c1 := h.r1
 have cf := h.cfl
 have cg := h.cmo
 have cm := h.cmk
 have z1 := h.fz 2
 have z2 := h.fz 524
 have z3 := h.fz 522
 have z4 := h.fz 523
 have H : Hid (XOk w B gD cap sv (d.fail x) ((((w.setCell ⟨B, 2, none⟩ (.int .u8 x)).setCell ⟨B, 524, none⟩ (.bool true)).setCell ⟨B, 522, none⟩ (.int .i64 0)).setCell ⟨B, 523, none⟩ (.bool true))) := by
  refine ⟨dn, ((((h.raw.setR 1 (by decide) 2 rfl x).setfl true).setmo 0).setmk true).id (d.fail x) rfl rfl rfl (fun j _ => ?_) rfl rfl rfl rfl rfl, Dn.none rfl, (((kpB B _ _ _).trans (kpB B _ _ _)).trans (kpB B _ _ _)).trans (kpB B _ _ _)⟩
  exact congrFun (reg_1 (d := { d with failed := true, mode := 0, mark := true }) x).symm j
 clear h
 go_enter Tryz.func154, Tryz.ntmps154
 go_wp2
 go_end0
 exact ⟨rfl, H.out⟩
theorem xfresh_ok (h : XAt w B gD cap dn sv d) : Calls Tryz.prog 74 #[.pointer (some ⟨B, 0, none⟩)] w fun e w' => e = .returned (.tuple #[]) ∧ XOk w B gD cap sv d.fresh w' := by
 have c0 := h.r0
 have c1 := h.r1
 have c2 := h.r2
 have c3 := h.r3
 have c4 := h.r4
 have c5 := h.r5
 have c6 := h.r6
 have cd := h.cdn
 have cf := h.cfl
 have cg := h.cmo
 have cm := h.cmk
 have y0 := h.fz 1
 have y1 := h.fz 2
 have y2 := h.fz 3
 have y3 := h.fz 4
 have y4 := h.fz 5
 have y5 := h.fz 6
 have y6 := h.fz 7
 have y7 := h.fz 521
 have y8 := h.fz 522
 have y9 := h.fz 523
 have ya := h.fz 524
 have hC : Hid (XAt w B gD cap dn sv d) := h
 clear h
 go_enter Tryz.func74, Tryz.ntmps74
 go_wp2
 go_end0
 refine ⟨rfl, 0, ?_, Dn.none rfl, ?_⟩
 ·refine (((((((((((hC.out.raw.setR 0 (by decide) 1 rfl 0).setR 1 (by decide) 2 rfl 1).setR 2 (by decide) 3 rfl 1).setR 3 (by decide) 4 rfl 1).setR 4 (by decide) 5 rfl 0).setR 5 (by decide) 6 rfl 0).setR 6 (by decide) 7 rfl 0).setmo 0).setdn 0).setmk false).setfl false).id _ rfl rfl rfl (fun j hj => ?_) rfl rfl rfl rfl rfl
  rcases (by omega : j = 0 ∨ j = 1 ∨ j = 2 ∨ j = 3 ∨ j = 4 ∨ j = 5 ∨ j = 6) with rfl | rfl | rfl | rfl | rfl | rfl | rfl <;> rfl
 ·exact (((((((((((kpB B _ _ _).trans (kpB B _ _ _)).trans (kpB B _ _ _)).trans (kpB B _ _ _)).trans (kpB B _ _ _)).trans (kpB B _ _ _)).trans (kpB B _ _ _)).trans (kpB B _ _ _)).trans (kpB B _ _ _)).trans (kpB B _ _ _)).trans (kpB B _ _ _))
theorem XOk.over {w1 w2 : World} {d' : Id} (k : Kp noB w w1) (h : XOk w1 B gD cap sv d' w2) : XOk w B gD cap sv d' w2 := by
 obtain ⟨dn', h1, hd, h2⟩ := h
 exact ⟨dn', h1, hd, k.any.trans h2⟩
theorem xbegin_none (h : XAt w B gD cap dn sv d) (k : d.Ok) (ht : d.there = false) (m : Int) : Calls Tryz.prog 157 #[.pointer (some ⟨B, 0, none⟩), .int .i64 m] w fun e w' => e = .returned (.tuple #[]) ∧ XOk w B gD cap sv (d.begin m) w' := by
 have HS : Hid _ := xthere_any h k
 rw [ht] at HS
 have hC : Hid (XAt w B gD cap dn sv d) := h
 have e : d.begin m = d.fail 16 := by unfold Id.begin; rw [if_neg (by rw [ht]; decide)]
 rw [e]
 clear h k ht e
 go_enter Tryz.func157, Tryz.ntmps157
 go_wp2_with fail
 refine Calls.mono HS.out ?_; rintro e w1 ⟨rfl, k1⟩
 have HF : Hid _ := xfail_ok (hC.out.keep k1) 16
 have K : Hid (Kp noB w w1) := k1
 clear k1
 go_wp2_with fail
 refine Calls.mono HF.out ?_; rintro e w2 ⟨rfl, h2⟩
 have H2 : Hid (XOk w B gD cap sv (d.fail 16) w2) := h2.over K.out
 clear h2 HF
 go_wp2
 refine bodyPost_ret (results_none rfl _ _ _) rfl ?_
 exact ⟨rfl, H2.out⟩
theorem xbegin_write (h : XAt w B gD cap dn sv d) (k : d.Ok) (ht : d.there = true) : Calls Tryz.prog 157 #[.pointer (some ⟨B, 0, none⟩), .int .i64 2] w fun e w' => e = .returned (.tuple #[]) ∧ XOk w B gD cap sv (d.begin 2) w' := by
 have HS : Hid _ := xthere_any h k
 rw [ht] at HS
 have hC : Hid (XAt w B gD cap dn sv d) := h
 have e : d.begin 2 = { d with mode := 2, don := 0 } := by unfold Id.begin; rw [if_pos ht, if_neg (by decide)]
 rw [e]
 clear h k ht e
 go_enter Tryz.func157, Tryz.ntmps157
 go_wp2_with fail
 refine Calls.mono HS.out ?_; rintro e w1 ⟨rfl, k1⟩
 have h1 := hC.out.keep k1
 have cg := h1.cmo
 have cd := h1.cdn
 have z1 := h1.fz 522
 have z2 := h1.fz 521
 have H : Hid (XOk w B gD cap sv { d with mode := 2, don := 0 } ((w1.setCell ⟨B, 522, none⟩ (.int .i64 2)).setCell ⟨B, 521, none⟩ (.int .i64 0))) :=
  ⟨0, ((h1.raw.setmo 2).setdn 0).id _ rfl rfl rfl (fun _ _ => rfl) rfl rfl rfl rfl rfl, fun _ => rfl, k1.any.trans ((kpB B _ _ _).trans (kpB B _ _ _))⟩
 clear k1 h1
 go_wp2
 go_end0
 exact ⟨rfl, H.out⟩
set_option maxRecDepth 20000 in
set_option maxHeartbeats 2000000 in
theorem xbegin_read (h : XAt w B gD cap dn sv d) (k : d.Ok) (ht : d.there = true) : Calls Tryz.prog 157 #[.pointer (some ⟨B, 0, none⟩), .int .i64 1] w fun e w' => e = .returned (.tuple #[]) ∧ XOk w B gD cap sv (d.begin 1) w' := by
 have HS : Hid _ := xthere_any h k
 rw [ht] at HS
 have hC : Hid (XAt w B gD cap dn sv d) := h
 have e : d.begin 1 = { d with mode := 1, don := 0, buf := fun i => d.D (d.at + i), mark := true } := by unfold Id.begin; rw [if_pos ht, if_pos rfl]
 rw [e]
 obtain ⟨a1, a2, a3⟩ := at_lt k ht
 have a4 := k.at ht
 obtain ⟨A, hA⟩ : ∃ A, A = d.at := ⟨_, rfl⟩
 rw [← hA] at a2 a3 a4 ⊢
 have hK : Hid d.Ok := k
 have p := k.place
 clear h k ht e hA
 go_enter Tryz.func157, Tryz.ntmps157
 go_wp2_with fail
 refine Calls.mono HS.out ?_; rintro e w1 ⟨rfl, k1⟩
 have h1 := hC.out.keep k1
 have cg := h1.cmo
 have cd := h1.cdn
 have z1 := h1.fz 522
 have z2 := h1.fz 521
 have h2 : XAt ((w1.setCell ⟨B, 522, none⟩ (.int .i64 1)).setCell ⟨B, 521, none⟩ (.int .i64 0)) B gD cap 0 sv { d with mode := 1 } := ((h1.raw.setmo 1).setdn 0).id _ rfl rfl rfl (fun _ _ => rfl) rfl rfl rfl rfl rfl
 have k2 : Kp (isB B) w ((w1.setCell ⟨B, 522, none⟩ (.int .i64 1)).setCell ⟨B, 521, none⟩ (.int .i64 0)) := k1.any.trans ((kpB B _ _ _).trans (kpB B _ _ _))
 have HP : Hid _ := xplace_any h2 { hK.out with mode := .inr (.inl rfl) }
 have hp1 : ({ d with mode := 1 } : Id).place = d.place := rfl
 rw [hp1] at HP
 have H2 : Hid (XAt ((w1.setCell ⟨B, 522, none⟩ (.int .i64 1)).setCell ⟨B, 521, none⟩ (.int .i64 0)) B gD cap 0 sv { d with mode := 1 } ∧ Kp (isB B) w ((w1.setCell ⟨B, 522, none⟩ (.int .i64 1)).setCell ⟨B, 521, none⟩ (.int .i64 0))) := ⟨h2, k2⟩
 clear h1 k1 h2 k2 HS
 go_wp2_with fail
 generalize (w1.setCell ⟨B, 522, none⟩ (.int .i64 1)).setCell ⟨B, 521, none⟩ (.int .i64 0) = w2 at *
 refine Calls.mono HP.out ?_; rintro e w3 ⟨rfl, m, rfl⟩
 have P3 : Hid (XRaw (w2.drewN m) B gD cap d.n sv d.log d.D d.reg (layB d.buf 0 0 (fun i => d.D (A + i))) d.c 0 1 d.mark d.failed ∧ Kp (isB B) w (w2.drewN m)) := by
  refine ⟨((H2.out.1.keep (drewN_kp _ m)).raw.same fun i hi => ?_), H2.out.2.trans (drewN_kp _ m).any⟩
  unfold layB
  rw [if_neg (by omega)]
 have w64 : IntKind.i64.wrap (d.place * 512) = d.place * 512 := by rw [IntKind.wrap_i64]; omega
 clear HP H2
 generalize d.place = P at *
 go_wp2
 generalize w2.drewN m = w3 at *
 go_loopw [6] (fun s6 wr => ∃ i : Nat, i ≤ 512 ∧ s6 = .int .i64 i ∧ XRaw wr B gD cap d.n sv d.log d.D d.reg (layB d.buf 0 i (fun i => d.D (A + i))) d.c 0 1 d.mark d.failed ∧ Kp (isB B) w wr) (fun s6 _ => 512 - (intOf s6).toNat)
 case atStart => exact ⟨0, by omega, rfl, P3.out.1, P3.out.2⟩
 case round =>
  clear P3
  obtain ⟨i, hi, rfl, hr, kr⟩ := hrel
  by_cases hlt : i < 512
  ·have c0 : wr.cell? ⟨B, 0, none⟩ = some (.slice (some ⟨gD, 0, none⟩) (512 * d.n) cap) := hr.blk.cell 0 (by decide)
   obtain ⟨z, hz⟩ : ∃ z, z = A + i := ⟨_, rfl⟩
   have cz : wr.cell? ⟨gD, z, none⟩ = some (.int .u8 (d.D z)) := by
    obtain ⟨cur, h1, h2, h3⟩ := hr.row
    rw [cell_at h1]
    exact h3 z (by omega)
   have cb := hr.blk.cell (9 + i) (by omega)
   rw [xC_b hlt] at cb
   have zb := hr.blk.fz (9 + i)
   have g1 : P * 512 + (i : Int) = (z : Int) := by omega
   have g2 : (z : Int) < 512 * (d.n : Int) := by omega
   have g3 : (z : Int) < ((512 * d.n : Nat) : Int) := by omega
   have g4 : z < 512 * d.n := by omega
   have g5 : IntKind.i64.wrap (z : Int) = z := by rw [IntKind.wrap_i64]; omega
   have g6 : wrap64 (z : Int) = z := IntWalk.wrap64_in _ ⟨by omega, by omega⟩
   have H : Hid (XRaw (wr.setCell ⟨B, 9 + i, none⟩ (.int .u8 (d.D z))).drew B gD cap d.n sv d.log d.D d.reg (layB d.buf 0 (i + 1) (fun i => d.D (A + i))) d.c 0 1 d.mark d.failed ∧ Kp (isB B) w (wr.setCell ⟨B, 9 + i, none⟩ (.int .u8 (d.D z))).drew) := by
    refine ⟨((hr.setb i hlt (d.D z)).same fun j hj => ?_).keep (Kp.refl _ _).drew, (kr.trans (kpB B _ _ _)).drew⟩
    unfold setB layB
    by_cases q : j = i
    ·rw [if_pos q, if_pos (by omega), q, hz, Nat.sub_zero]
    ·rw [if_neg q]
     by_cases q2 : j < i
     ·rw [if_pos (by omega), if_pos (by omega)]
     ·rw [if_neg (by omega), if_neg (by omega)]
   clear hr kr hz a1 a2 a3 a4 w64 hp1 g2 p
   obtain ⟨N, hN⟩ : ∃ N, N = 512 * d.n := ⟨_, rfl⟩
   rw [← hN] at c0 g3 g4
   clear hN
   generalize d.D z = y at *
   generalize layB d.buf 0 i _ i = y9 at cb
   go_wp2
   go_region
   go_wp2
   go_roundw
   case rel => exact ⟨i + 1, by omega, by go_num, H.out.1, H.out.2⟩
   case measure => simp [intOf]; omega
  ·have e : i = 512 := by omega
   subst e
   have cm : wr.cell? ⟨B, 523, none⟩ = some (.bool d.mark) := hr.blk.cell 523 (by decide)
   have zm := hr.blk.fz 523
   have H : Hid (XOk w B gD cap sv { d with mode := 1, don := 0, buf := fun i => d.D (A + i), mark := true } (wr.setCell ⟨B, 523, none⟩ (.bool true))) := by
    refine ⟨0, ((hr.setmk true).same (b' := fun i => d.D (A + i)) fun j hj => ?_).id _ rfl rfl rfl (fun _ _ => rfl) rfl rfl rfl rfl rfl, fun _ => rfl, kr.trans (kpB B _ _ _)⟩
    unfold layB
    rw [if_pos (by omega), Nat.sub_zero]
   clear hr kr
   go_wp2
   go_end0
   exact ⟨rfl, H.out⟩
theorem xbegin_ok (h : XAt w B gD cap dn sv d) (k : d.Ok) (m : Int) (hm : m = 1 ∨ m = 2) : Calls Tryz.prog 157 #[.pointer (some ⟨B, 0, none⟩), .int .i64 m] w fun e w' => e = .returned (.tuple #[]) ∧ XOk w B gD cap sv (d.begin m) w' := by
 cases ht : d.there
 ·exact xbegin_none h k ht _
 ·rcases hm with rfl | rfl
  ·exact xbegin_read h k ht
  ·exact xbegin_write h k ht
end
section
variable {w : World} {B gD cap : Nat} {dn : Int} {sv : Value} {d : Id}
def xclr (w : World) (B : Nat) : World := (((w.setCell ⟨B, 523, none⟩ (.bool false)).setCell ⟨B, 2, none⟩ (.int .u8 0)).setCell ⟨B, 524, none⟩ (.bool false)).setCell ⟨B, 522, none⟩ (.int .i64 0)
theorem xclear_ok (h : XAt w B gD cap dn sv d) : XAt (xclr w B) B gD cap dn sv d.clear ∧ Kp (isB B) w (xclr w B) :=
 ⟨((((h.raw.setmk false).setR 1 (by decide) 2 rfl 0).setfl false).setmo 0).id _ rfl rfl rfl (fun j _ => congrFun (reg_1 (d := { d with mark := false, failed := false, mode := 0 }) 0).symm j) rfl rfl rfl rfl rfl, (((kpB B _ _ _).trans (kpB B _ _ _)).trans (kpB B _ _ _)).trans (kpB B _ _ _)⟩
theorem xcommand_off (h : XAt w B gD cap dn sv d) (hd : Dn d dn) (k : d.Ok) (ho : d.off = true) (v : Int) : Calls Tryz.prog 123 #[.pointer (some ⟨B, 0, none⟩), .int .u8 v] w fun e w' => e = .returned (.tuple #[]) ∧ XOk w B gD cap sv (d.command v) w' := by
 have c6 := h.r6
 obtain ⟨b0, b1⟩ := k.r6
 have H : Hid (XOk w B gD cap sv (d.command v) w) := by
  unfold Id.command
  rw [if_pos ho]
  exact ⟨dn, h, hd, Kp.refl _ _⟩
 have q : (d.r6 / 16 % 2 == 1) = true := ho
 generalize d.r6 = r at *
 clear h hd k ho
 go_enter Tryz.func123, Tryz.ntmps123
 go_wp2
 refine bodyPost_ret (results_none rfl _ _ _) rfl ?_
 exact ⟨rfl, H.out⟩
set_option maxHeartbeats 2000000 in
theorem xcommand_on (h : XAt w B gD cap dn sv d) (k : d.Ok) (ho : d.off = false) (v : Int) (hec : v ≠ 236) (hv : byt v) : Calls Tryz.prog 123 #[.pointer (some ⟨B, 0, none⟩), .int .u8 v] w fun e w' => e = .returned (.tuple #[]) ∧ XOk w B gD cap sv (d.command v) w' := by
 have c1 := h.r1
 have c6 := h.r6
 have cf := h.cfl
 have cg := h.cmo
 have cm := h.cmk
 have z1 := h.fz 2
 have z2 := h.fz 522
 have z3 := h.fz 523
 have z4 := h.fz 524
 obtain ⟨b0, b1⟩ := k.r6
 obtain ⟨hc, kc⟩ := xclear_ok h
 have hk := k.clear
 have HB1 : Hid _ := xbegin_ok hc hk 1 (.inl rfl)
 have HB2 : Hid _ := xbegin_ok hc hk 2 (.inr rfl)
 have HF : Hid _ := xfail_ok hc 4
 have hcl : Hid (XAt (xclr w B) B gD cap dn sv d.clear) := hc
 have FIN : Hid (∀ (x : Id) w4, x = d.command v → XOk (xclr w B) B gD cap sv x w4 → XOk w B gD cap sv (d.command v) w4) := by
  rintro x w4 e ⟨dn4, h4, d4, k4⟩
  rw [← e]
  exact ⟨dn4, h4, d4, kc.trans k4⟩
 have KC : Hid (Kp (isB B) w (xclr w B)) := kc
 have q0 : (d.r6 / 16 % 2 == 1) = false := ho
 have ho' : Hid (d.off = false) := ho
 have MT : Hid (d.meant = (d.r6 / 64 % 2 == 1)) := rfl
 obtain ⟨v0, v1⟩ := hv
 unfold xclr at HB1 HB2 HF
 clear h k ho hc hk kc
 generalize d.r6 = r at *
 by_cases v20 : v = 32 ∨ v = 33
 ·cases q : (r / 64 % 2 == 1)
  ·rw [q] at MT
   have E : Hid (d.clear.fail 4 = d.command v) := by
    show _ = _
    unfold Id.command
    rw [if_neg (by rw [ho'.out]; decide), if_pos (by omega), if_neg (by rw [MT.out]; decide)]
   clear HB1 HB2 hcl KC
   rcases v20 with rfl | rfl
   all_goals
    go_enter Tryz.func123, Tryz.ntmps123
    go_wp2_with fail
    refine Calls.mono HF.out ?_; rintro e w4 ⟨rfl, h4⟩
    have H : Hid _ := FIN.out _ w4 E.out h4
    clear h4 FIN HF
    go_wp2
    go_end0
    exact ⟨rfl, H.out⟩
  ·rw [q] at MT
   have E : Hid (d.clear.begin 1 = d.command v) := by
    show _ = _
    unfold Id.command
    rw [if_neg (by rw [ho'.out]; decide), if_pos (by omega), if_pos MT.out, if_pos (by omega)]
   clear HF HB2 hcl KC
   rcases v20 with rfl | rfl
   all_goals
    go_enter Tryz.func123, Tryz.ntmps123
    go_wp2_with fail
    refine Calls.mono HB1.out ?_; rintro e w4 ⟨rfl, h4⟩
    have H : Hid _ := FIN.out _ w4 E.out h4
    clear h4 FIN HB1
    go_wp2
    go_end0
    exact ⟨rfl, H.out⟩
 ·by_cases v30 : v = 48 ∨ v = 49
  ·cases q : (r / 64 % 2 == 1)
   ·rw [q] at MT
    have E : Hid (d.clear.fail 4 = d.command v) := by
     show _ = _
     unfold Id.command
     rw [if_neg (by rw [ho'.out]; decide), if_pos (by omega), if_neg (by rw [MT.out]; decide)]
    clear HB1 HB2 hcl KC v20
    rcases v30 with rfl | rfl
    all_goals
     go_enter Tryz.func123, Tryz.ntmps123
     go_wp2_with fail
     refine Calls.mono HF.out ?_; rintro e w4 ⟨rfl, h4⟩
     have H : Hid _ := FIN.out _ w4 E.out h4
     clear h4 FIN HF
     go_wp2
     go_end0
     exact ⟨rfl, H.out⟩
   ·rw [q] at MT
    have E : Hid (d.clear.begin 2 = d.command v) := by
     show _ = _
     unfold Id.command
     rw [if_neg (by rw [ho'.out]; decide), if_pos (by omega), if_pos MT.out, if_neg (by omega)]
    clear HF HB1 hcl KC v20
    rcases v30 with rfl | rfl
    all_goals
     go_enter Tryz.func123, Tryz.ntmps123
     go_wp2_with fail
     refine Calls.mono HB2.out ?_; rintro e w4 ⟨rfl, h4⟩
     have H : Hid _ := FIN.out _ w4 E.out h4
     clear h4 FIN HB2
     go_wp2
     go_end0
     exact ⟨rfl, H.out⟩
  ·have nb : ¬ (v = 32 ∨ v = 33 ∨ v = 48 ∨ v = 49) := by omega
   by_cases vm : v = 231 ∨ v = 145
   ·have H : Hid (XOk w B gD cap sv (d.command v) ((xclr w B).setCell ⟨B, 523, none⟩ (.bool true))) := by
     show XOk _ _ _ _ _ _ _
     unfold Id.command
     rw [if_neg (by rw [ho'.out]; decide), if_neg nb, if_neg hec, if_pos vm]
     exact ⟨dn, (hcl.out.raw.setmk true).id _ rfl rfl rfl (fun _ _ => rfl) rfl rfl rfl rfl rfl, Dn.none rfl, KC.out.trans (kpB B _ _ _)⟩
    unfold xclr at H
    clear HF HB1 HB2 hcl KC FIN v20 v30 nb hec MT
    rcases vm with rfl | rfl
    all_goals
     go_enter Tryz.func123, Tryz.ntmps123
     go_wp2
     go_end0
     exact ⟨rfl, H.out⟩
   ·have E : Hid (d.clear.fail 4 = d.command v) := by
     show _ = _
     unfold Id.command
     rw [if_neg (by rw [ho'.out]; decide), if_neg nb, if_neg hec, if_neg vm]
    have q1 : (v == 32) = false := by rw [beq_eq_false_iff_ne]; omega
    have q2 : (v == 33) = false := by rw [beq_eq_false_iff_ne]; omega
    have q3 : (v == 48) = false := by rw [beq_eq_false_iff_ne]; omega
    have q4 : (v == 49) = false := by rw [beq_eq_false_iff_ne]; omega
    have q5 : (v == 236) = false := by rw [beq_eq_false_iff_ne]; omega
    have q6 : (v == 231) = false := by rw [beq_eq_false_iff_ne]; omega
    have q7 : (v == 145) = false := by rw [beq_eq_false_iff_ne]; omega
    clear HB1 HB2 hcl KC v20 v30 nb vm hec MT
    go_enter Tryz.func123, Tryz.ntmps123
    go_wp2_with fail
    refine Calls.mono HF.out ?_; rintro e w4 ⟨rfl, h4⟩
    have H : Hid _ := FIN.out _ w4 E.out h4
    clear h4 FIN HF
    go_wp2
    go_end0
    exact ⟨rfl, H.out⟩
end
section
variable {w : World} {B gD cap : Nat} {dn : Int} {sv : Value} {d : Id}
theorem q_at {w : World} {Q : Nat} {Z : Array Value} {T : TypeId} (h : w.heap[Q]? = some (.cells Z T (0, 0))) (e : Z = (zr 512).toArray) (k : Nat) (hk : k < 512) : w.cell? ⟨Q, k, none⟩ = some (.int .u8 0) := by
 rw [cell_at h, e, List.getElem?_toArray]
 exact zr_get hk
theorem ecB_one (n : Nat) : ∀ v ∈ (List.range 512).map (fun j => Value.int .u8 (ecB n j)), v.oneCell' = true := by
 intro v hv
 obtain ⟨j, _, rfl⟩ := List.mem_map.1 hv
 rfl
theorem ec_lay {w1 : World} {Q : Nat} {Z : Array Value} {T : TypeId} (h : XAt w1 B gD cap dn sv d) (n64 : d.n ≤ 64) (hq : w1.heap[Q]? = some (.cells Z T (0, 0))) (eZ : Z = (zr 512).toArray) (eT : T = 104) :
  ∃ arr w3, (loadCellsFrom ⟨Q, 0, none⟩ 0 512 #[]).run Tryz.prog (((w1.setCell ⟨Q, 0, none⟩ (.int .u8 64)).setCell ⟨Q, 99, none⟩ (.int .u8 2)).setCell ⟨Q, 120, none⟩ (.int .u8 d.n)) = .ok arr (((w1.setCell ⟨Q, 0, none⟩ (.int .u8 64)).setCell ⟨Q, 99, none⟩ (.int .u8 2)).setCell ⟨Q, 120, none⟩ (.int .u8 d.n)) ∧ arr.size = 512 ∧
   (storeCells ⟨B, 9, none⟩ arr.toList).run Tryz.prog (((w1.setCell ⟨Q, 0, none⟩ (.int .u8 64)).setCell ⟨Q, 99, none⟩ (.int .u8 2)).setCell ⟨Q, 120, none⟩ (.int .u8 d.n)) = .ok () w3 ∧ XAt w3 B gD cap dn sv { d with buf := ecB d.n } ∧ Kp (fun k => k = B ∨ k = Q) w1 w3 := by
 have k2 : Kp (isB Q) w1 (((w1.setCell ⟨Q, 0, none⟩ (.int .u8 64)).setCell ⟨Q, 99, none⟩ (.int .u8 2)).setCell ⟨Q, 120, none⟩ (.int .u8 d.n)) := ((kpB Q _ _ _).trans (kpB Q _ _ _)).trans (kpB Q _ _ _)
 have h2 := heap_set (k := 120) (v := .int .u8 d.n) (heap_set (k := 99) (v := .int .u8 2) (heap_set (k := 0) (v := .int .u8 64) hq))
 generalize (((w1.setCell ⟨Q, 0, none⟩ (.int .u8 64)).setCell ⟨Q, 99, none⟩ (.int .u8 2)).setCell ⟨Q, 120, none⟩ (.int .u8 d.n)) = w2 at *
 have nB : ¬ isB Q B := by
  rintro (e : B = Q)
  obtain ⟨c, h3, _⟩ := h.blk
  rw [e, hq, eT] at h3
  simp at h3
 have nD : ¬ isB Q gD := by
  rintro (e : gD = Q)
  obtain ⟨c, h3, _⟩ := h.row
  rw [e, hq, eT] at h3
  simp at h3
 have nL : ∀ g, sv.ownBlock = some g → ¬ isB Q g := by
  rintro g e (e2 : g = Q)
  obtain ⟨c, h3⟩ := h.log.lt e
  rw [e2, hq, eT] at h3
  simp at h3
 have r2 := h.raw.kept k2 nB nD nL
 have hlen : ((List.range 512).map (fun j => Value.int .u8 (ecB d.n j))).length = 512 := by simp
 have hget : ∀ j, j < 512 → ((List.range 512).map (fun j => Value.int .u8 (ecB d.n j)))[j]? = some (.int .u8 (ecB d.n j)) := by
  intro j hj
  rw [List.getElem?_map, List.getElem?_range hj]
  rfl
 have hload : (loadCellsFrom ⟨Q, 0, none⟩ 0 512 #[]).run Tryz.prog w2 = .ok ((List.range 512).map (fun j => Value.int .u8 (ecB d.n j))).toArray w2 := by
  have := run_loadCells_list (P := Tryz.prog) (w := w2) ⟨Q, 0, none⟩ ((List.range 512).map (fun j => Value.int .u8 (ecB d.n j))) (fun j v hv => by
   have hj : j < 512 := by
    have := (List.getElem?_eq_some_iff.1 hv).1
    rwa [hlen] at this
   rw [hget j hj] at hv
   rw [← hv]
   have ea : (⟨Q, 0, none⟩ : Addr).add j = ⟨Q, j, none⟩ := by unfold Addr.add; split <;> simp_all
   rw [ea, cell_at h2, eZ]
   rw [Array.getElem?_setIfInBounds, Array.getElem?_setIfInBounds, Array.getElem?_setIfInBounds, List.getElem?_toArray, zr_get hj]
   simp only [Array.size_setIfInBounds, List.size_toArray, zr_len]
   unfold ecB z8
   by_cases a : j = 0
   ·subst a; rfl
   ·by_cases b : j = 99
    ·subst b; rfl
    ·by_cases c : j = 120
     ·subst c
      simp
      omega
     ·rw [if_neg (fun e => c e.symm), if_neg (fun e => b e.symm), if_neg (fun e => a e.symm), if_neg a, if_neg b, if_neg c])
  rw [hlen] at this
  exact this
 obtain ⟨cur, hb, hs, hc⟩ := r2.blk
 have e := run_storeCells_at Tryz.prog B 9 _ ((List.range 512).map (fun j => Value.int .u8 (ecB d.n j))) 0 cur w2 hb (by rw [hlen]; omega) (ecB_one d.n)
 have hl := Laid.splice (cur := cur) (o := 9) (cs := (List.range 512).map (fun j => Value.int .u8 (ecB d.n j))) (by rw [hlen]; omega) (fun j => .int .u8 (ecB d.n j)) (fun j hj => hget j (by rwa [hlen] at hj))
 rw [hlen] at hl
 refine ⟨_, _, hload, by rw [List.size_toArray, hlen], (by rw [List.toList_toArray, e, Nat.add_zero, hlen]), ?_, ?_⟩
 ·have yl := r2.blk.laid hb (setRow_heap w2 B _ _ _ _ hb) hl
  have := r2.own yl (Kp.setRow (S := isB B) w2 rfl _) (fun k hk => xC_laybuf (o := 0) (m := 512) (by decide) (ecB d.n) k)
  exact (this.same (b' := ecB d.n) (fun i hi => by unfold layB; rw [if_pos (by omega)]; rfl)).id _ rfl rfl rfl (fun _ _ => rfl) rfl rfl rfl rfl rfl
 ·exact (k2.mono fun k _ e => .inr e).trans ((Kp.setRow (S := isB B) w2 rfl _).mono fun k _ e => .inl e)
set_option maxRecDepth 20000 in
set_option maxHeartbeats 2000000 in
theorem xcommand_ec (h : XAt w B gD cap dn sv d) (k : d.Ok) (ho : d.off = false) : Calls Tryz.prog 123 #[.pointer (some ⟨B, 0, none⟩), .int .u8 236] w fun e w' => e = .returned (.tuple #[]) ∧ XOk w B gD cap sv (d.command 236) w' := by
 have ec : d.command 236 = { d.clear with buf := ecB d.n, mode := 3, don := 0, mark := true } := by
  unfold Id.command
  rw [if_neg (by rw [ho]; decide), if_neg (by decide), if_pos rfl]
 rw [ec]
 have c1 := h.r1
 have c6 := h.r6
 have cf := h.cfl
 have cg := h.cmo
 have cm := h.cmk
 have z1 := h.fz 2
 have z2 := h.fz 522
 have z3 := h.fz 523
 have z4 := h.fz 524
 obtain ⟨b0, b1⟩ := k.r6
 have f64 := k.few
 have HC : Hid (XAt (xclr w B) B gD cap dn sv d.clear ∧ Kp (isB B) w (xclr w B)) := xclear_ok h
 have q0 : (d.r6 / 16 % 2 == 1) = false := ho
 obtain ⟨T, n, Z, V⟩ := vlB
 have o1 := V.ops
 have e1 := V.agg
 have e2 := V.size
 have e3 := V.zero
 have e4 := V.under
 have e5 := V.zs
 have eZ : Hid (Z = (zr 512).toArray ∧ n = 512 ∧ T = 104) := ⟨V.z, V.s, V.t⟩
 have b9 := h.lt
 clear h k ho V ec
 generalize d.r6 = r at *
 unfold xclr at HC
 go_enter Tryz.func123, Tryz.ntmps123
 simp only [o1.2.1, o1.2.2.1, o1.2.2.2]
 go_upto_region 19 with fail
 obtain ⟨w1, hw1⟩ : ∃ w1, w1 = World.alloc (World.setCell (World.setCell (World.setCell (World.setCell w ⟨B, 523, none⟩ (.bool false)) ⟨B, 2, none⟩ (.int .u8 0)) ⟨B, 524, none⟩ (.bool false)) ⟨B, 522, none⟩ (.int .i64 0)) (.cells Z T) := ⟨_, rfl⟩
 rw [← hw1]
 have h1 : XAt w1 B gD cap dn sv d.clear := by rw [hw1]; exact HC.out.1.keep (Kp.alloc noB _ _)
 have k1 : Hid (Kp (isB B) w w1) := by show Kp _ _ _; rw [hw1]; exact HC.out.2.trans (Kp.alloc _ _ _)
 have hq : w1.heap[w.heap.size]? = some (.cells Z T (0, 0)) := by
  rw [hw1]
  have := heap_new (World.setCell (World.setCell (World.setCell (World.setCell w ⟨B, 523, none⟩ (.bool false)) ⟨B, 2, none⟩ (.int .u8 0)) ⟨B, 524, none⟩ (.bool false)) ⟨B, 522, none⟩ (.int .i64 0)) (.cells Z T)
  have es : (World.setCell (World.setCell (World.setCell (World.setCell w ⟨B, 523, none⟩ (.bool false)) ⟨B, 2, none⟩ (.int .u8 0)) ⟨B, 524, none⟩ (.bool false)) ⟨B, 522, none⟩ (.int .i64 0)).heap.size = w.heap.size := by simp [World.setCell]
  rw [es] at this
  exact this
 generalize hQ : w.heap.size = Q at hq ⊢ b9
 clear hw1 HC c1 c6 cf cg cm z1 z2 z3 z4
 have b1 := h1.c0
 have b2 := q_at hq eZ.out.1 0 (by decide)
 have b3 := q_at hq eZ.out.1 99 (by decide)
 have b4 := q_at hq eZ.out.1 120 (by decide)
 have b5 : ∀ k, w1.frozen? ⟨Q, k, none⟩ = false := fun k => frozen_at hq
 have bq : ¬ B = Q := by omega
 have bq' : ¬ Q = B := by omega
 have H1 : Hid (XAt w1 B gD cap dn sv d.clear ∧ w1.heap[Q]? = some (.cells Z T (0, 0))) := ⟨h1, hq⟩
 have en : d.clear.n = d.n := rfl
 rw [en] at b1
 have e9 : ((512 * d.n : Nat) : Int) / 512 = d.n := by omega
 have e8 : Int.tdiv ((512 * d.n : Nat) : Int) 512 = d.n := by rw [Int.tdiv_eq_ediv_of_nonneg (by omega)]; omega
 obtain ⟨L, hL⟩ : ∃ L, L = 512 * d.n := ⟨_, rfl⟩
 rw [← hL] at b1 e9 e8
 clear h1 hq en
 obtain ⟨arr, w3, l1, l2, l3, l4, l5⟩ := ec_lay H1.out.1 f64 H1.out.2 eZ.out.1 eZ.out.2.2
 have en2 : n = 512 := eZ.out.2.1
 rw [← en2] at l1 l2
 have en3 : d.clear.n = d.n := rfl
 rw [en3] at l1 l3
 have x1 := l4.cmo
 have x2 := l4.cdn
 have x3 := l4.cmk
 have y1 := l4.fz 522
 have y2 := l4.fz 521
 have y3 := l4.fz 523
 have H : Hid (XOk w B gD cap sv { d.clear with buf := ecB d.n, mode := 3, don := 0, mark := true } (((w3.setCell ⟨B, 522, none⟩ (.int .i64 3)).setCell ⟨B, 521, none⟩ (.int .i64 0)).setCell ⟨B, 523, none⟩ (.bool true))) :=
  ⟨0, (((l4.raw.setmo 3).setdn 0).setmk true).id _ rfl rfl rfl (fun _ _ => rfl) rfl rfl rfl rfl rfl, fun _ => rfl, (((k1.out.over l5 (fun j hj e => by rcases e with e | e; exact e; omega)).trans (kpB B _ _ _)).trans (kpB B _ _ _)).trans (kpB B _ _ _)⟩
 clear l4 l5 en2 en3 H1
 go_wp2
 go_end0
 exact ⟨rfl, H.out⟩
theorem xcommand_ok (h : XAt w B gD cap dn sv d) (hd : Dn d dn) (k : d.Ok) (v : Int) (hv : byt v) : Calls Tryz.prog 123 #[.pointer (some ⟨B, 0, none⟩), .int .u8 v] w fun e w' => e = .returned (.tuple #[]) ∧ XOk w B gD cap sv (d.command v) w' := by
 cases ho : d.off
 ·by_cases e : v = 236
  ·subst e
   exact xcommand_ec h k ho
  ·exact xcommand_on h k ho v e hv
 ·exact xcommand_off h hd k ho v
end
end Go.Proofs.YtonfjhbfkichkaaGreat.Dk
