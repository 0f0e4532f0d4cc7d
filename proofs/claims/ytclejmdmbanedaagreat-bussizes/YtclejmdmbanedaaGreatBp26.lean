/- The bus and its devices: UtOpen, UartLatchesLaw, UtStr, UrBase, UrLeaf. -/
import Derived.Test.YtclejmdmbanedaaGreatRows
import Derived.Test.YtclejmdmbanedaaGreatBp02
import Derived.WalkKit
import Derived.ProofKit
import Derived.OpenShut
import Derived.Carry
import Derived.Deep.Slices
import Derived.Below
import Derived.SizedLaws
import Derived.Laws.BytesArg
namespace Go.Proofs.YtclejmdmbanedaaGreat.Ut
open Go.ChangeShapes Go.WideShapes Go.ChangeAt Go.RowKit
set_option linter.unusedVariables false
set_option maxRecDepth 20000
theorem one_int : Tryz.prog.cellsOf 3 = 1 := by kernel_rfl
theorem spotless {w : World} {b o : Nat} {sp : Option Nat} {v : Value} (h : w.cell? ⟨b, o, sp⟩ = some v) : sp = none := by
  cases sp with
  | none => rfl
  | some x =>
    unfold World.cell? at h
    split at h <;> simp at h
theorem spot_of2 {w : World} {base blk off K : Nat} {sp : Option Nat} {cs : List Value} (h : w.cells? base ((⟨blk, off, sp⟩ : Addr).add (0 * K)) K = some cs) (hK : 0 < K) : sp = none := by
  obtain ⟨_, hl, hg⟩ := World.cells?_some h
  have h0 := hg 0 hK
  have hl1 : 0 < cs.length := by rw [hl]; exact hK
  rw [List.getElem?_eq_getElem hl1, Nat.zero_mul] at h0
  exact spotless (w := w) (b := blk) (o := off) h0
theorem add_plain (blk off n : Nat) : (⟨blk, off, none⟩ : Addr).add n = ⟨blk, off + n, none⟩ := by
  unfold Addr.add
  split
  · rename_i hz
    rw [hz]
    rfl
  · rfl
theorem cell_below {w : World} {b o : Nat} {v : Value} (h : w.cell? ⟨b, o, none⟩ = some v) : b < w.heap.size := by
  by_cases e : b < w.heap.size
  · exact e
  · have : w.heap[b]? = none := Array.getElem?_eq_none (by omega)
    simp [World.cell?, this] at h
theorem cell_kept {S : Nat → Prop} {w w' : World} {b o : Nat} {v : Value} (h : w.cell? ⟨b, o, none⟩ = some v) (k : Kp S w w') (hS : ¬ S b) : w'.cell? ⟨b, o, none⟩ = some v := by
  have := k.block b (cell_below h) hS
  unfold World.cell? at h ⊢
  simpa only [this] using h
/-- One call of a list of calls. -/
def OpIn (w : World) (x : Option Addr) (i : Nat) : Prop :=
  ∃ (blk off : Nat) (kd n v : Int), x = some ⟨blk, off, none⟩ ∧ blk < w.heap.size ∧ (w.cell? ⟨blk, off + i * 3, none⟩ = some (.int .i64 kd) ∧ w.cell? ⟨blk, off + i * 3 + 1, none⟩ = some (.int .i64 n) ∧ w.cell? ⟨blk, off + i * 3 + 2, none⟩ = some (.int .u8 v)) ∧
    (-9223372036854775808 ≤ kd ∧ kd ≤ 9223372036854775807) ∧ (-9223372036854775808 ≤ n ∧ n ≤ 9223372036854775807) ∧ (0 ≤ v ∧ v < 256)
theorem OpIn.kp {w w' : World} {x : Option Addr} {i : Nat} (h : OpIn w x i) (k : Kp noB w w') : OpIn w' x i := by
  obtain ⟨blk, off, kd, n, v, h1, h2, ⟨c0, c1, c2⟩, h3⟩ := h
  exact ⟨blk, off, kd, n, v, h1, Nat.lt_of_lt_of_le h2 k.size, ⟨cell_kept c0 k id, cell_kept c1 k id, cell_kept c2 k id⟩, h3⟩
/-- Bytes from a place on. -/
def BytAt (w : World) (a : Option Addr) (L : Nat) (bt : Nat → Int) : Prop := ∀ j, j < L → ∃ b o, a = some ⟨b, o, none⟩ ∧ b < w.heap.size ∧ w.cell? ⟨b, o + j, none⟩ = some (.int .u8 (bt j))
structure BytIn (w : World) (a : Option Addr) (L : Nat) (bt : Nat → Int) : Prop where
  at' : BytAt w a L bt
  bd : ∀ j, j < L → 0 ≤ bt j ∧ bt j < 256
  le : L ≤ 140737488351232
theorem bytesIn {H : Type} {enc : TypeId × Value → H} {w : World} {fuel : Nat} {a : Option Addr} {len cap : Nat} {d : DataW H} {p : List MemPlace} (h : DataW.trod enc Tryz.prog w 0 (fun _ => true) true fuel 22 (Value.slice a len cap).cells.toList = some (d, p))
    (hz : ∀ elems spare, d = .slice elems spare → (elems.length + spare.length) * Tryz.prog.bytesOf 5 ≤ reachBytes) : ∃ bt, BytIn w a len bt := by
  rcases open_ints Tryz.underlying22 Tryz.underlying5 (by kernel_rfl) h with ⟨hcs, _⟩ | ⟨y, l, c, zs, hcs, _, hl, hm, hzl, hx, hcell, hwz⟩
  · simp [Value.cells] at hcs
    obtain ⟨rfl, rfl, rfl⟩ := hcs
    exact ⟨fun _ => 0, fun j hj => absurd hj (by simp), fun j hj => absurd hj (by simp), by simp⟩
  · simp [Value.cells] at hcs
    obtain ⟨rfl, rfl, rfl⟩ := hcs
    have hz' : zs.length = cap := by simpa using hzl
    injection hx with hd hp
    have hs := hz _ _ hd
    have hb : Tryz.prog.bytesOf 5 = 1 := by kernel_rfl
    have hr : reachBytes = 140737488351232 := rfl
    have hlen : len ≤ 140737488351232 := by
      rw [hb] at hs
      have e : (lits (H := H) .u8 (List.take len zs)).length = len := by unfold lits; rw [List.length_map, List.length_take]; omega
      rw [e] at hs
      omega
    refine ⟨fun j => zs.getD j 0, fun j hj => ?_, fun j hj => ?_, hlen⟩
    · obtain ⟨b, off, rfl, hc⟩ := ints_at hcell (by omega)
      have := hc j (by omega)
      exact ⟨b, off, rfl, cell_below this, this⟩
    · have hj' : j < zs.length := by omega
      have e : zs.getD j 0 ∈ zs := by rw [List.getD_eq_getElem?_getD, List.getElem?_eq_getElem hj']; exact List.getElem_mem hj'
      have := bounds_u8 (hwz _ e)
      omega
end Go.Proofs.YtclejmdmbanedaaGreat.Ut
namespace Go.Proofs.YtclejmdmbanedaaGreat.Ut
open Go.ChangeShapes Go.WideShapes Go.ChangeAt Go.RowKit
set_option linter.unusedVariables false
set_option maxRecDepth 20000
section
variable (lo hi x y : Int)
def v1 : U := ⟨[], false, false, false, 0, 0, 0, 131, 0, 0, []⟩
def v2 : U := ⟨[], false, false, false, lo, 0, 0, 131, 0, 0, []⟩
def v3 : U := ⟨[], false, false, false, lo, hi, 0, 131, 0, 0, []⟩
def v5 : U := ⟨[], false, false, false, lo, hi, 0, 3, 0, 0, []⟩
def v6 : U := ⟨[], false, true, false, lo, hi, 0, 3, 0, 0, [x]⟩
end
end Go.Proofs.YtclejmdmbanedaaGreat.Ut
namespace Go.Proofs.YtclejmdmbanedaaGreat.Ut
open Go.ChangeShapes Go.WideShapes Go.ChangeAt Go.RowKit
set_option linter.unusedVariables false
set_option maxRecDepth 20000
/-- n bytes from the i-th on. -/
def sg (bt : Nat → Int) (i n : Nat) : List Int := (List.range' i n).map bt
theorem sg_len (bt : Nat → Int) (i n : Nat) : (sg bt i n).length = n := by simp [sg]
theorem sg_get (bt : Nat → Int) {n j : Nat} (h : j < n) : (sg bt 0 n).getD j 0 = bt j := by
  unfold sg
  rw [List.getD_eq_getElem?_getD, List.getElem?_map, List.getElem?_range' h]
  simp
/-- The value is a slice whose bytes make this string. -/
def StrAt (w : World) (v : Value) (l : List Int) : Prop := (convert 22 9 v).run Tryz.prog w = .ok (.string (strOfNums l)) w
theorem OwnB.str {w : World} {v : Value} {l : List Int} (h : OwnB w v l) : StrAt w v l := by
  unfold StrAt
  rcases h.2 with ⟨rfl, h2⟩ | ⟨g, cap, cur, rfl, hb, hg, r⟩
  · have e : l = [] := List.length_eq_zero_iff.1 h2
    subst e
    exact run_convert_bytes_nil w _ 5 Tryz.underlying22 Tryz.underlying5 0 0 _ Tryz.underlying9
  · refine run_convert_bytes_arg w _ 5 Tryz.underlying22 Tryz.underlying5 g 0 l.length cap l rfl (fun i hi => ?_) _ Tryz.underlying9
    obtain ⟨g', e, hc, _⟩ := h.at hi
    injection e with e
    injection e with e
    subst e
    rw [Nat.zero_add]
    exact hc
theorem BytAt.kept {S : Nat → Prop} {w w' : World} {a : Option Addr} {L : Nat} {bt : Nat → Int} (h : BytAt w a L bt) (k : Kp S w w') (hS : ∀ b, b < w.heap.size → ¬ S b) : BytAt w' a L bt := fun j hj => by
  obtain ⟨b, o, e, hb, hc⟩ := h j hj
  exact ⟨b, o, e, Nat.lt_of_lt_of_le hb k.size, cell_kept hc k (hS b hb)⟩
theorem BytAt.str {w : World} {a : Option Addr} {L c : Nat} {bt : Nat → Int} (h : BytAt w a L bt) : StrAt w (.slice a L c) (sg bt 0 L) := by
  unfold StrAt
  cases L with
  | zero =>
    cases a with
    | none => exact run_convert_bytes_nil w _ 5 Tryz.underlying22 Tryz.underlying5 0 c _ Tryz.underlying9
    | some x =>
      rw [run_convert_bytes_string w _ _ 5 _ _ _ Tryz.underlying22 Tryz.underlying5 Tryz.underlying9, run_bytesToString w x 0 c [] (by simpa using run_loadCells_list (P := Tryz.prog) w x [] (fun j v hv => by simp at hv))]
      rfl
  | succ L =>
    obtain ⟨b, o, rfl, hb, hc⟩ := h 0 (by omega)
    refine run_convert_bytes_arg w _ 5 Tryz.underlying22 Tryz.underlying5 b o (L + 1) c _ (sg_len _ _ _) (fun i hi => ?_) _ Tryz.underlying9
    obtain ⟨b', o', e, hb, hc⟩ := h i hi
    injection e with e
    injection e with e1 e2
    subst e1; subst e2
    rw [sg_get bt hi]
    exact hc
end Go.Proofs.YtclejmdmbanedaaGreat.Ut
namespace Go.Proofs.YtclejmdmbanedaaGreat.Ut
open Go.ChangeShapes Go.WideShapes Go.ChangeAt Go.RowKit
set_option linter.unusedVariables false
set_option maxRecDepth 20000
/-- Bytes that wait in a list, from some place of a block on. -/
inductive CqAt (w : World) : Value → List Int → Prop
  | no : CqAt w (.slice none 0 0) []
  | on (g o cap : Nat) (cur : Array Value) (l : List Int) (hg : w.heap[g]? = some (.cells cur 5 (0, 0))) (hn : l.length ≤ cap) (hc : o + cap ≤ cur.size) (hm : cap ≤ maxLen) (hx : ∀ j, j < l.length → cur[o + j]? = some (.int .u8 (l.getD j 0))) : CqAt w (.slice (some ⟨g, o, none⟩) l.length cap) l
theorem CqAt.kept {S : Nat → Prop} {w w' : World} {v : Value} {l : List Int} (h : CqAt w v l) (k : Kp S w w') (hS : ∀ g, v.ownBlock = some g → ¬ S g) : CqAt w' v l := by
  cases h with
  | no => exact .no
  | on g o cap cur l hg hn hc hm hx => exact .on g o cap cur l (heap_kept hg k (hS g rfl)) hn hc hm hx
theorem CqAt.lt {w : World} {v : Value} {l : List Int} (h : CqAt w v l) {g : Nat} (e : v.ownBlock = some g) : ∃ cur, w.heap[g]? = some (.cells cur 5 (0, 0)) := by
  cases h with
  | no => cases e
  | on g' o cap cur l hg hn hc hm hx =>
    simp only [Value.ownBlock, Option.some.injEq] at e
    subst e
    exact ⟨cur, hg⟩
theorem CqAt.sl {w : World} {v : Value} {l : List Int} (h : CqAt w v l) : ∃ p c, v = .slice p l.length c := by
  cases h with
  | no => exact ⟨_, _, rfl⟩
  | on g o cap cur l hg hn hc hm hx => exact ⟨_, _, rfl⟩
def rC (cq sv : Value) (u : U) : Array Value := #[cq, .bool u.lost, .int .u8 u.d0, .int .u8 u.d1, .int .u8 u.line, .int .u8 u.modem, .int .u8 u.jot, .int .u8 u.want, .bool u.on, .bool u.tell, sv]
structure RAt (w : World) (R : Nat) (cq sv : Value) (u : U) : Prop where
  blk : w.heap[R]? = some (.cells (rC cq sv u) 153 (0, 0))
  chn : CqAt w cq u.came
  snt : OwnB w sv u.sent
  apart : ∀ g, cq.ownBlock = some g → sv.ownBlock ≠ some g
section
variable {w : World} {R : Nat} {cq sv : Value} {u : U}
theorem RAt.kept {S : Nat → Prop} {w' : World} (h : RAt w R cq sv u) (k : Kp S w w') (hB : ¬ S R) (hc : ∀ g, cq.ownBlock = some g → ¬ S g) (hs : ∀ g, sv.ownBlock = some g → ¬ S g) : RAt w' R cq sv u :=
  ⟨heap_kept h.blk k hB, h.chn.kept k hc, h.snt.kept k hs, h.apart⟩
theorem RAt.cell (h : RAt w R cq sv u) {k : Nat} {v : Value} (e : (rC cq sv u)[k]? = some v) : w.cell? ⟨R, k, none⟩ = some v := by
  simp [World.cell?, h.blk, e]
theorem RAt.c0 (h : RAt w R cq sv u) : w.cell? ⟨R, 0, none⟩ = some cq := h.cell rfl
theorem RAt.c1 (h : RAt w R cq sv u) : w.cell? ⟨R, 1, none⟩ = some (.bool u.lost) := h.cell rfl
theorem RAt.c2 (h : RAt w R cq sv u) : w.cell? ⟨R, 2, none⟩ = some (.int .u8 u.d0) := h.cell rfl
theorem RAt.c3 (h : RAt w R cq sv u) : w.cell? ⟨R, 3, none⟩ = some (.int .u8 u.d1) := h.cell rfl
theorem RAt.c4 (h : RAt w R cq sv u) : w.cell? ⟨R, 4, none⟩ = some (.int .u8 u.line) := h.cell rfl
theorem RAt.c5 (h : RAt w R cq sv u) : w.cell? ⟨R, 5, none⟩ = some (.int .u8 u.modem) := h.cell rfl
theorem RAt.c6 (h : RAt w R cq sv u) : w.cell? ⟨R, 6, none⟩ = some (.int .u8 u.jot) := h.cell rfl
theorem RAt.c7 (h : RAt w R cq sv u) : w.cell? ⟨R, 7, none⟩ = some (.int .u8 u.want) := h.cell rfl
theorem RAt.c8 (h : RAt w R cq sv u) : w.cell? ⟨R, 8, none⟩ = some (.bool u.on) := h.cell rfl
theorem RAt.c9 (h : RAt w R cq sv u) : w.cell? ⟨R, 9, none⟩ = some (.bool u.tell) := h.cell rfl
theorem RAt.c10 (h : RAt w R cq sv u) : w.cell? ⟨R, 10, none⟩ = some sv := h.cell rfl
theorem RAt.fz (h : RAt w R cq sv u) (j : Nat) : w.frozen? ⟨R, j, none⟩ = false := by simp [World.frozen?, h.blk]
theorem RAt.lt (h : RAt w R cq sv u) : R < w.heap.size := heap_lt h.blk
theorem off_row {w : World} {cs : Array Value} (hb : w.heap[R]? = some (.cells cs 153 (0, 0))) {g : Nat} (h : ∃ cur, w.heap[g]? = some (.cells cur 5 (0, 0))) : ¬ isB R g := by
  rintro (rfl : g = R)
  obtain ⟨cur, hc⟩ := h
  rw [hb] at hc
  simp at hc
theorem RAt.put (h : RAt w R cq sv u) {k : Nat} {v : Value} (cq' sv' : Value) (u' : U) (e : (rC cq sv u).setIfInBounds k v = rC cq' sv' u') (hc : CqAt w cq' u'.came) (hs : OwnB w sv' u'.sent) (ha : ∀ g, cq'.ownBlock = some g → sv'.ownBlock ≠ some g) : RAt (w.setCell ⟨R, k, none⟩ v) R cq' sv' u' := by
  have hk := kpB R w k v
  exact ⟨by rw [heap_set h.blk, e], hc.kept hk (fun g eg => off_row h.blk (hc.lt eg)), hs.kept hk (fun g eg => off_row h.blk (hs.lt eg)), ha⟩
theorem RAt.set (h : RAt w R cq sv u) {k : Nat} {v : Value} (u' : U) (e : (rC cq sv u).setIfInBounds k v = rC cq sv u') (hc : u'.came = u.came) (hs : u'.sent = u.sent) : RAt (w.setCell ⟨R, k, none⟩ v) R cq sv u' :=
  h.put cq sv u' e (hc ▸ h.chn) (hs ▸ h.snt) h.apart
end
/-- The blocks that it owns. -/
def rfoot (R : Nat) (cq sv : Value) (k : Nat) : Prop := k = R ∨ cq.ownBlock = some k ∨ sv.ownBlock = some k
structure RW (w : World) (S : Nat → Prop) (R : Nat) (u : U) : Prop where
  ex : ∃ cq sv, RAt w R cq sv u ∧ ∀ k, rfoot R cq sv k → S k
  lt : ∀ k, S k → k < w.heap.size
theorem RW.kept {w w' : World} {S T : Nat → Prop} {R : Nat} {u : U} (h : RW w S R u) (k : Kp T w w') (hS : ∀ k, S k → ¬ T k) : RW w' S R u := by
  obtain ⟨cv, sv, h1, h2⟩ := h.ex
  exact ⟨⟨cv, sv, h1.kept k (hS _ (h2 _ (.inl rfl))) (fun c e => hS _ (h2 _ (.inr (.inl e)))) (fun g e => hS _ (h2 _ (.inr (.inr e)))), h2⟩, fun j hj => Nat.lt_of_lt_of_le (h.lt j hj) k.size⟩
end Go.Proofs.YtclejmdmbanedaaGreat.Ut
namespace Go.Proofs.YtclejmdmbanedaaGreat.Ut
open Go.ChangeShapes Go.WideShapes Go.ChangeAt Go.RowKit
set_option linter.unusedVariables false
set_option maxRecDepth 20000
theorem by_tm {v m : Int} (h : 0 ≤ v) : Int.tmod v m = v % m := Int.tmod_eq_emod_of_nonneg h
theorem by_td {v m : Int} (h : 0 ≤ v) : Int.tdiv v m = v / m := Int.tdiv_eq_ediv_of_nonneg h
section
variable {w : World} {R : Nat} {cq sv : Value} {u : U}
theorem rwhy_any (h : RAt w R cq sv u) (k : u.Ok) : Calls Tryz.prog 126 #[.pointer (some ⟨R, 0, none⟩)] w fun e w' => e = .returned (.int .u8 u.why) ∧ w' = w := by
  have c0 := h.c0
  have c7 := h.c7
  have c9 := h.c9
  obtain ⟨p, c, rfl⟩ := h.chn.sl
  obtain ⟨w0, w1⟩ := k.want
  have wm : Int.tmod u.want 2 = u.want % 2 := by_tm w0
  have wd : Int.tdiv u.want 2 = u.want / 2 := by_td w0
  have wdm : Int.tmod (u.want / 2) 2 = u.want / 2 % 2 := by_tm (by omega)
  have e0 : (u.want % 2 == 1) = b0 u.want := rfl
  have e1 : (u.want / 2 % 2 == 1) = b1 u.want := rfl
  have et : decide (0 < u.came.length) = u.there := rfl
  unfold U.why
  clear h k
  generalize u.there = ut at et ⊢
  generalize b0 u.want = x0 at e0 ⊢
  generalize b1 u.want = x1 at e1 ⊢
  cases ut <;> cases x0 <;> cases el : u.tell <;> rw [el] at c9 <;> cases x1 <;> (
    go_enter Tryz.func126, Tryz.ntmps126
    go_wp2
    go_ret
    exact ⟨rfl, rfl⟩)
theorem rline_any (h : RAt w R cq sv u) (k : u.Ok) : Calls Tryz.prog 84 #[.pointer (some ⟨R, 0, none⟩)] w fun e w' => e = .returned (.bool u.ln) ∧ w' = w := by
  have HT : Hid _ := rwhy_any h k
  unfold U.ln
  clear h k
  go_enter Tryz.func84, Tryz.ntmps84
  go_wp2_with fail
  refine Calls.mono HT.out ?_; rintro e w1 ⟨rfl, hw⟩; replace hw := hw.symm; subst hw
  go_wp2
  go_ret
  exact ⟨rfl, rfl⟩
end
theorem rnew_ok (w : World) : Calls Tryz.prog 40 #[] w fun e w' => e = .returned (.pointer (some ⟨w.heap.size, 0, none⟩)) ∧ RAt w' w.heap.size (.slice none 0 0) (.slice none 0 0) u0 ∧ Kp noB w w' := by
  have h0 : Hid (RAt (w.alloc (.cells (rC (.slice none 0 0) (.slice none 0 0) u0) 153)) w.heap.size (.slice none 0 0) (.slice none 0 0) u0) := ⟨heap_new _ _, .no, OwnB.nil _, fun g e => by cases e⟩
  have k0 : Hid (Kp noB w (w.alloc (.cells (rC (.slice none 0 0) (.slice none 0 0) u0) 153))) := Kp.alloc _ _ _
  go_enter Tryz.func40, Tryz.ntmps40
  go_wp2
  go_ret
  exact ⟨rfl, h0.out, k0.out⟩
end Go.Proofs.YtclejmdmbanedaaGreat.Ut
