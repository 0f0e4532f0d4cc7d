/- The bus and its devices: XeRule, XeThree, XeDid, XeFlat, XeNew, XeBoth. -/
import Derived.Test.YtiagfmkinefidaaGreatEx12
import Derived.Carry
import Derived.Test.YtiagfmkinefidaaGreatEx14
import Derived.Test.YtiagfmkinefidaaGreatEx17
import Derived.Test.YtiagfmkinefidaaGreatEx04
import Derived.Test.YtiagfmkinefidaaGreatEx31
import Derived.Test.YtiagfmkinefidaaGreatEx26
import Derived.LoopN
import Derived.Test.YtiagfmkinefidaaGreatEx11
import Derived.Laws.Tables
namespace Go.Proofs.YtiagfmkinefidaaGreat.Rm
open Go.ChangeShapes Go.WideShapes Go.ChangeAt Go.RowKit Go.Maps
set_option linter.unusedVariables false
set_option maxRecDepth 20000
theorem keyX : Tryz.prog.underlying 3 = some (.int .i64) := by kernel_rfl
theorem mapX : Tryz.prog.underlying 225 = some (.map 3 168) := by kernel_rfl
theorem alloc_setX (w : World) (o o' : Obj) : ({ w.alloc o with heap := (w.alloc o).heap.setIfInBounds w.heap.size o' } : World) = w.alloc o' := by
  have e : (w.alloc o).heap.setIfInBounds w.heap.size o' = (w.alloc o').heap := by
    show (w.heap.push o).setIfInBounds w.heap.size o' = w.heap.push o'
    apply Array.ext
    · simp
    · intro i h1 h2
      have h3 : i < w.heap.size + 1 := by simpa using h2
      by_cases h : w.heap.size = i
      · subst h; simp
      · have h4 : i < w.heap.size := by omega
        rw [Array.getElem_setIfInBounds_ne (h := h), Array.getElem_push_lt h4, Array.getElem_push_lt h4]
        simp; omega
  rw [e]
  rfl
theorem put_newX (w : World) (es : Array MapEntry) (n : Nat) (i : Int) (v : Value) (hf : Instr.findNow (.int .i64) (.int .i64 i) es.toList 0 = some none) :
    (Instr.mapUpdate 225 (.map (some w.heap.size)) (.int .i64 i) v).run Tryz.prog (w.alloc (.map es n)) = .ok () (w.alloc (.map (es.push ⟨.int .i64 i, v, n⟩) (n + 1))) := by
  have hb : (w.alloc (.map es n)).heap[w.heap.size]? = some (.map es n) := (MapKept.heap_alloc w (.map es n)).1
  have hc := MapKept.run_checkKey (P := Tryz.prog) (w := w.alloc (.map es n)) keyX (k := .int .i64 i) (by simp [MapKept.IsKey]) false 9999
  have hd := MapKept.run_findKey (P := Tryz.prog) (w := w.alloc (.map es n)) keyX hf
  have hs := MapKept.run_setObj_map (P := Tryz.prog) (.map (es.push ⟨.int .i64 i, v, n⟩) (n + 1)) hb
  rw [alloc_setX] at hs
  simp [Instr.mapUpdate, run_underlying mapX, MapKept.run_getObj_map hb, hc, hd, hs, Result.andThen]
theorem look_X (w : World) (es : Array MapEntry) (n : Nat) (i : Int) (j : Nat) (v : Value) (hf : Instr.findNow (.int .i64) (.int .i64 i) es.toList 0 = some (some (j, v))) :
    (Instr.lookup 225 (.map (some w.heap.size)) (.int .i64 i) false).run Tryz.prog (w.alloc (.map es n)) = .ok v (w.alloc (.map es n)) := by
  have hb : (w.alloc (.map es n)).heap[w.heap.size]? = some (.map es n) := (MapKept.heap_alloc w (.map es n)).1
  have hc := MapKept.run_checkKey (P := Tryz.prog) (w := w.alloc (.map es n)) keyX (k := .int .i64 i) (by simp [MapKept.IsKey]) es.isEmpty 9999
  have hd := MapKept.run_findKey (P := Tryz.prog) (w := w.alloc (.map es n)) keyX hf
  simp [Instr.lookup, run_underlying mapX, MapKept.run_getObj_map hb, hc, hd, Result.andThen]
def es_reckoning : Array MapEntry := #[⟨.int .i64 1, .func (.func 161) #[] #[], 0⟩, ⟨.int .i64 2, .func (.func 162) #[] #[], 1⟩, ⟨.int .i64 3, .func (.func 163) #[] #[], 2⟩, ⟨.int .i64 4, .func (.func 164) #[] #[], 3⟩, ⟨.int .i64 5, .func (.func 165) #[] #[], 4⟩, ⟨.int .i64 6, .func (.func 166) #[] #[], 5⟩, ⟨.int .i64 7, .func (.func 167) #[] #[], 6⟩]
theorem reckoning_any (w : World) : Calls Tryz.prog 114 #[] w fun e w' => e = .returned (.map (some w.heap.size)) ∧ w' = w.alloc (.map es_reckoning 7) := by
  unfold es_reckoning
  have hmm := @run_makeMap Tryz.prog
  have p0 := put_newX w #[] 0 1 (.func (.func 161) #[] #[]) (by rfl)
  have p1 := put_newX w #[⟨.int .i64 1, .func (.func 161) #[] #[], 0⟩] 1 2 (.func (.func 162) #[] #[]) (by rfl)
  have p2 := put_newX w #[⟨.int .i64 1, .func (.func 161) #[] #[], 0⟩, ⟨.int .i64 2, .func (.func 162) #[] #[], 1⟩] 2 3 (.func (.func 163) #[] #[]) (by rfl)
  have p3 := put_newX w #[⟨.int .i64 1, .func (.func 161) #[] #[], 0⟩, ⟨.int .i64 2, .func (.func 162) #[] #[], 1⟩, ⟨.int .i64 3, .func (.func 163) #[] #[], 2⟩] 3 4 (.func (.func 164) #[] #[]) (by rfl)
  have p4 := put_newX w #[⟨.int .i64 1, .func (.func 161) #[] #[], 0⟩, ⟨.int .i64 2, .func (.func 162) #[] #[], 1⟩, ⟨.int .i64 3, .func (.func 163) #[] #[], 2⟩, ⟨.int .i64 4, .func (.func 164) #[] #[], 3⟩] 4 5 (.func (.func 165) #[] #[]) (by rfl)
  have p5 := put_newX w #[⟨.int .i64 1, .func (.func 161) #[] #[], 0⟩, ⟨.int .i64 2, .func (.func 162) #[] #[], 1⟩, ⟨.int .i64 3, .func (.func 163) #[] #[], 2⟩, ⟨.int .i64 4, .func (.func 164) #[] #[], 3⟩, ⟨.int .i64 5, .func (.func 165) #[] #[], 4⟩] 5 6 (.func (.func 166) #[] #[]) (by rfl)
  have p6 := put_newX w #[⟨.int .i64 1, .func (.func 161) #[] #[], 0⟩, ⟨.int .i64 2, .func (.func 162) #[] #[], 1⟩, ⟨.int .i64 3, .func (.func 163) #[] #[], 2⟩, ⟨.int .i64 4, .func (.func 164) #[] #[], 3⟩, ⟨.int .i64 5, .func (.func 165) #[] #[], 4⟩, ⟨.int .i64 6, .func (.func 166) #[] #[], 5⟩] 6 7 (.func (.func 167) #[] #[]) (by rfl)
  simp only [List.push_toArray, List.cons_append, List.nil_append, Nat.zero_add, Nat.reduceAdd] at p0 p1 p2 p3 p4 p5 p6
  go_enter Tryz.func114, Tryz.ntmps114
  go_wp2
  go_ret
  exact ⟨rfl, rfl⟩
theorem rule_1 (w : World) : Calls Tryz.prog 67 #[.int .i64 1] w fun e w' => e = .returned (.func (.func 161) #[] #[]) ∧ Kp noB w w' := by
  have HL := look_X w es_reckoning 7 1 0 (.func (.func 161) #[] #[]) (by rfl)
  have HK : Hid (Kp noB w (w.alloc (.map es_reckoning 7))) := Kp.alloc _ _ _
  go_enter Tryz.func67, Tryz.ntmps67
  go_wp2_with fail
  refine Calls.mono (reckoning_any w) ?_; rintro e w1 ⟨rfl, rfl⟩
  go_wp2
  go_ret
  exact ⟨rfl, HK.out⟩
theorem rule_6 (w : World) : Calls Tryz.prog 67 #[.int .i64 6] w fun e w' => e = .returned (.func (.func 166) #[] #[]) ∧ Kp noB w w' := by
  have HL := look_X w es_reckoning 7 6 5 (.func (.func 166) #[] #[]) (by rfl)
  have HK : Hid (Kp noB w (w.alloc (.map es_reckoning 7))) := Kp.alloc _ _ _
  go_enter Tryz.func67, Tryz.ntmps67
  go_wp2_with fail
  refine Calls.mono (reckoning_any w) ?_; rintro e w1 ⟨rfl, rfl⟩
  go_wp2
  go_ret
  exact ⟨rfl, HK.out⟩
def es_crossing : Array MapEntry := #[⟨.int .i64 32, .func (.func 201) #[] #[], 0⟩, ⟨.int .i64 33, .func (.func 202) #[] #[], 1⟩, ⟨.int .i64 34, .func (.func 203) #[] #[], 2⟩, ⟨.int .i64 35, .func (.func 204) #[] #[], 3⟩, ⟨.int .i64 36, .func (.func 205) #[] #[], 4⟩, ⟨.int .i64 37, .func (.func 206) #[] #[], 5⟩, ⟨.int .i64 38, .func (.func 207) #[] #[], 6⟩, ⟨.int .i64 39, .func (.func 208) #[] #[], 7⟩]
theorem crossing_any (w : World) : Calls Tryz.prog 118 #[] w fun e w' => e = .returned (.map (some w.heap.size)) ∧ w' = w.alloc (.map es_crossing 8) := by
  unfold es_crossing
  have hmm := @run_makeMap Tryz.prog
  have p0 := put_newX w #[] 0 32 (.func (.func 201) #[] #[]) (by rfl)
  have p1 := put_newX w #[⟨.int .i64 32, .func (.func 201) #[] #[], 0⟩] 1 33 (.func (.func 202) #[] #[]) (by rfl)
  have p2 := put_newX w #[⟨.int .i64 32, .func (.func 201) #[] #[], 0⟩, ⟨.int .i64 33, .func (.func 202) #[] #[], 1⟩] 2 34 (.func (.func 203) #[] #[]) (by rfl)
  have p3 := put_newX w #[⟨.int .i64 32, .func (.func 201) #[] #[], 0⟩, ⟨.int .i64 33, .func (.func 202) #[] #[], 1⟩, ⟨.int .i64 34, .func (.func 203) #[] #[], 2⟩] 3 35 (.func (.func 204) #[] #[]) (by rfl)
  have p4 := put_newX w #[⟨.int .i64 32, .func (.func 201) #[] #[], 0⟩, ⟨.int .i64 33, .func (.func 202) #[] #[], 1⟩, ⟨.int .i64 34, .func (.func 203) #[] #[], 2⟩, ⟨.int .i64 35, .func (.func 204) #[] #[], 3⟩] 4 36 (.func (.func 205) #[] #[]) (by rfl)
  have p5 := put_newX w #[⟨.int .i64 32, .func (.func 201) #[] #[], 0⟩, ⟨.int .i64 33, .func (.func 202) #[] #[], 1⟩, ⟨.int .i64 34, .func (.func 203) #[] #[], 2⟩, ⟨.int .i64 35, .func (.func 204) #[] #[], 3⟩, ⟨.int .i64 36, .func (.func 205) #[] #[], 4⟩] 5 37 (.func (.func 206) #[] #[]) (by rfl)
  have p6 := put_newX w #[⟨.int .i64 32, .func (.func 201) #[] #[], 0⟩, ⟨.int .i64 33, .func (.func 202) #[] #[], 1⟩, ⟨.int .i64 34, .func (.func 203) #[] #[], 2⟩, ⟨.int .i64 35, .func (.func 204) #[] #[], 3⟩, ⟨.int .i64 36, .func (.func 205) #[] #[], 4⟩, ⟨.int .i64 37, .func (.func 206) #[] #[], 5⟩] 6 38 (.func (.func 207) #[] #[]) (by rfl)
  have p7 := put_newX w #[⟨.int .i64 32, .func (.func 201) #[] #[], 0⟩, ⟨.int .i64 33, .func (.func 202) #[] #[], 1⟩, ⟨.int .i64 34, .func (.func 203) #[] #[], 2⟩, ⟨.int .i64 35, .func (.func 204) #[] #[], 3⟩, ⟨.int .i64 36, .func (.func 205) #[] #[], 4⟩, ⟨.int .i64 37, .func (.func 206) #[] #[], 5⟩, ⟨.int .i64 38, .func (.func 207) #[] #[], 6⟩] 7 39 (.func (.func 208) #[] #[]) (by rfl)
  simp only [List.push_toArray, List.cons_append, List.nil_append, Nat.zero_add, Nat.reduceAdd] at p0 p1 p2 p3 p4 p5 p6 p7
  go_enter Tryz.func118, Tryz.ntmps118
  go_wp2
  go_ret
  exact ⟨rfl, rfl⟩
theorem rule_32 (w : World) : Calls Tryz.prog 67 #[.int .i64 32] w fun e w' => e = .returned (.func (.func 201) #[] #[]) ∧ Kp noB w w' := by
  have HL := look_X w es_crossing 8 32 0 (.func (.func 201) #[] #[]) (by rfl)
  have HK : Hid (Kp noB w (w.alloc (.map es_crossing 8))) := Kp.alloc _ _ _
  go_enter Tryz.func67, Tryz.ntmps67
  go_wp2_with fail
  refine Calls.mono (crossing_any w) ?_; rintro e w1 ⟨rfl, rfl⟩
  go_wp2
  go_ret
  exact ⟨rfl, HK.out⟩
end Go.Proofs.YtiagfmkinefidaaGreat.Rm
namespace Go.Proofs.YtiagfmkinefidaaGreat.Rm
open Go.ChangeShapes Go.WideShapes Go.ChangeAt Go.RowKit Go.Maps
set_option linter.unusedVariables false
set_option maxRecDepth 20000
def opdZ : Dc.Opd := ⟨0, 0, 0, 0, 0, 0, 0, 0, 0⟩
def xAdd : Dc.Ins := ⟨1, 0, 4, ⟨1, 0, 4, 0, 0, 0, 0, 0, 0⟩, ⟨3, 0, 0, 0, 0, 0, 0, 0, 4294967291⟩, opdZ, 0, 3⟩
def xDiv : Dc.Ins := ⟨6, 0, 1, ⟨1, 3, 1, 0, 0, 0, 0, 0, 0⟩, opdZ, opdZ, 0, 2⟩
def xInt : Dc.Ins := ⟨32, 0, 4, ⟨3, 0, 0, 0, 0, 0, 0, 0, 128⟩, opdZ, opdZ, 0, 2⟩
theorem dec_add : Dc.decM Dc.ruleOf 3 (Dc.bts [131, 192, 251]) = (xAdd, 0) := by decide +kernel
theorem dec_div : Dc.decM Dc.ruleOf 2 (Dc.bts [246, 243]) = (xDiv, 0) := by decide +kernel
theorem dec_int : Dc.decM Dc.ruleOf 2 (Dc.bts [205, 128]) = (xInt, 0) := by decide +kernel
theorem startC_ne {cs : Array Value} {ip l : Int} {k : Nat} (h : k ≠ 8 ∧ k ≠ 80) : (startC cs ip l)[k]? = cs[k]? := by
  unfold startC
  rw [Array.getElem?_setIfInBounds_ne (by omega), Array.getElem?_setIfInBounds_ne (by omega)]
def csAdd (cs : Array Value) : Array Value := ((startC cs 0 3).setIfInBounds 0 (.int .u32 (putR 4 0 5 0))).setIfInBounds 9 (.int .u32 87)
theorem do_add (w : World) (E V B : Nat) (cs : Array Value) (hE : EAt w E cs (.pointer (some ⟨V, 0, none⟩)) (.pointer (some ⟨B, 0, none⟩))) (h0 : cs[0]? = some (.int .u32 5)) (h8 : cs[8]? = some (.int .u32 0)) (h9 : cs[9]? = some (.int .u32 2)) (sh : Value) (h80 : cs[80]? = some sh) :
    Calls Tryz.prog 13 #[.pointer (some ⟨E, 0, none⟩), .agg (Dc.insV xAdd)] w fun e w' => e = .returned (.agg #[.int .i64 (-1), .int .i64 (-1), .int .u32 0, .int .i64 (-1), .bool false]) ∧ Kp (fun j => j = E) w w' ∧ EAt w' E (csAdd cs) (.pointer (some ⟨V, 0, none⟩)) (.pointer (some ⟨B, 0, none⟩)) := by
  refine do_ok w E V B cs hE xAdd (-1) false (fun j => j = E) (fun w' => EAt w' E (csAdd cs) (.pointer (some ⟨V, 0, none⟩)) (.pointer (some ⟨B, 0, none⟩))) (fun j hj => by rw [hj]; exact hE.lt) (fun W W' p k => EAt.kp p k (by have := hE.lt; omega)) (fun W D kW q1 q2 hD => ?_)
  have DE : D ≠ E := by have := hE.lt; omega
  refine all_any W D E xAdd 0 (-1) false cs _ _ hD (hE.kp0 kW) DE 0 h8 sh h80 (by decide) (by decide) (by decide) (by decide) 161 (fun W => rule_1 W) (fun a W => by kernel_rfl) _ (fun e w' q => .inl q.1) (fun W2 d2 e2 k2 => ?_)
  refine (sum_ri W2 D E DE xAdd 0 (-1) false (startC cs 0 3) _ _ d2 e2 4 2147483648 4294967296 0 32 (.inr (.inr ⟨rfl, rfl, rfl, rfl, rfl⟩)) (by decide) 0 (by decide) (by decide) (by decide) (by decide) rfl rfl rfl rfl rfl (by decide) (by decide) 5 2 (by decide) (by decide) (by decide) (by decide) (by rw [startC_ne (by decide)]; exact h0) (by rw [startC_ne (by decide)]; exact h9) 0 87 (by decide) (by decide) (by show _ = _; kernel_rfl)).mono ?_
  rintro e w' ⟨rfl, r⟩
  exact ⟨rfl, k2.trans r.k, r.e, 0, r.d⟩
theorem do_div (w : World) (E V B : Nat) (cs : Array Value) (hE : EAt w E cs (.pointer (some ⟨V, 0, none⟩)) (.pointer (some ⟨B, 0, none⟩))) (r : Int) (r0 : 0 ≤ r) (r1 : r < 4294967296) (h0 : cs[0]? = some (.int .u32 r)) (h3 : cs[3]? = some (.int .u32 0)) (ip : Int) (p0 : 0 ≤ ip) (p1 : ip < 4294967296) (h8 : cs[8]? = some (.int .u32 ip)) (sh : Value) (h80 : cs[80]? = some sh) :
    Calls Tryz.prog 13 #[.pointer (some ⟨E, 0, none⟩), .agg (Dc.insV xDiv)] w fun e w' => e = .returned (.agg #[.int .i64 0, .int .i64 (-1), .int .u32 0, .int .i64 (-1), .bool false]) ∧ Kp (fun j => j = E) w w' ∧ EAt w' E cs (.pointer (some ⟨V, 0, none⟩)) (.pointer (some ⟨B, 0, none⟩)) := by
  have H := do_no w E V B cs hE xDiv ⟨0, -1, 0⟩ (fun w => by kernel_rfl) (fun j => j = E) (fun _ => True) (fun j hj => by rw [hj]; exact hE.lt) (fun _ _ _ _ => trivial) (fun W D kW q1 q2 hD => ?_)
  · exact H.mono fun e w' ⟨q1, q2, _, q4⟩ => ⟨q1, q2.mono (fun j _ g => g.elim id id), q4⟩
  have DE : D ≠ E := by have := hE.lt; omega
  refine all_any W D E xDiv 0 (-1) false cs _ _ hD (hE.kp0 kW) DE ip h8 sh h80 p0 p1 (by decide) (by decide) 166 (fun W => rule_6 W) (fun a W => by kernel_rfl) _ (fun e w' q => .inr ⟨_, q.1⟩) (fun W2 d2 e2 k2 => ?_)
  refine (divide_no W2 D E xDiv ip (-1) false (startC cs ip 2) _ _ d2 e2 3 (by decide) rfl rfl rfl rfl rfl 0 r (by decide) (by decide) r0 r1 (by rw [show regK 1 3 = 3 from rfl, startC_ne (by decide)]; exact h3) (by rw [startC_ne (by decide)]; exact h0) (by decide)).mono ?_
  rintro e w' ⟨rfl, k3⟩
  exact ⟨rfl, k2.trans (k3.mono (fun _ _ f => f.elim)), trivial, _, e2.kp0 k3⟩
theorem do_int (w : World) (E V B : Nat) (cs : Array Value) (hE : EAt w E cs (.pointer (some ⟨V, 0, none⟩)) (.pointer (some ⟨B, 0, none⟩))) (ip : Int) (p0 : 0 ≤ ip) (p1 : ip < 4294967296) (h8 : cs[8]? = some (.int .u32 ip)) (sh : Value) (h80 : cs[80]? = some sh) :
    Calls Tryz.prog 13 #[.pointer (some ⟨E, 0, none⟩), .agg (Dc.insV xInt)] w fun e w' => e = .returned (.agg #[.int .i64 (-1), .int .i64 (-1), .int .u32 0, .int .i64 128, .bool false]) ∧ Kp (fun j => j = E) w w' ∧ EAt w' E (startC cs ip 2) (.pointer (some ⟨V, 0, none⟩)) (.pointer (some ⟨B, 0, none⟩)) := by
  refine do_ok w E V B cs hE xInt 128 false (fun j => j = E) (fun w' => EAt w' E (startC cs ip 2) (.pointer (some ⟨V, 0, none⟩)) (.pointer (some ⟨B, 0, none⟩))) (fun j hj => by rw [hj]; exact hE.lt) (fun W W' p k => EAt.kp p k (by have := hE.lt; omega)) (fun W D kW q1 q2 hD => ?_)
  have DE : D ≠ E := by have := hE.lt; omega
  refine all_any W D E xInt 0 (-1) false cs _ _ hD (hE.kp0 kW) DE ip h8 sh h80 p0 p1 (by decide) (by decide) 201 (fun W => rule_32 W) (fun a W => by kernel_rfl) _ (fun e w' q => .inl q.1) (fun W2 d2 e2 k2 => ?_)
  refine (int_ok W2 D E DE xInt ip (-1) false (startC cs ip 2) _ _ d2 e2 rfl (by decide) (by decide)).mono ?_
  rintro e w' ⟨rfl, d3, e3, k3⟩
  exact ⟨rfl, k2.trans k3, e3, ip, d3⟩
end Go.Proofs.YtiagfmkinefidaaGreat.Rm
namespace Go.Proofs.YtiagfmkinefidaaGreat.Rm
open Go.ChangeShapes Go.WideShapes Go.ChangeAt Go.RowKit Go.Maps
set_option linter.unusedVariables false
set_option maxRecDepth 20000
def BytL (w : World) (G : Nat) (l : List Int) : Prop := w.heap[G]? = some (.cells (l.map (Value.int .u8)).toArray 5 (0, 0)) ∧ ∀ y ∈ l, 0 ≤ y ∧ y < 256
theorem decodes (w : World) (G : Nat) (l : List Int) (hl : l.length ≤ 15) (hG : BytL w G l) (c : Nat) (x : Dc.Ins) (e : Int) (hx : Dc.decM Dc.ruleOf l.length (Dc.bts l) = (x, e)) :
    Calls Tryz.prog 44 #[.slice (some ⟨G, 0, none⟩) l.length c] w fun r w' => r = .returned (.tuple #[.agg (Dc.insV x), .int .i64 e]) ∧ Kp noB w w' := by
  refine (Dc.decode_ok Dc.ruleOf Dc.tabOk w (some ⟨G, 0, none⟩) c l.length (Dc.bts l) (by omega) ?_ ?_).mono ?_
  · intro j hj
    refine ⟨G, 0, rfl, (Array.getElem?_eq_some_iff.1 hG.1).1, ?_⟩
    rw [cell_at hG.1]
    simp [Dc.bts, hj]
  · intro j hj
    exact hG.2 _ (by unfold Dc.bts; rw [List.getD_eq_getElem?_getD, List.getElem?_eq_getElem hj]; exact List.getElem_mem hj)
  · rintro r w' ⟨rfl, k⟩
    rw [hx]
    exact ⟨rfl, kDc k⟩
set_option maxHeartbeats 2000000 in
theorem did_any (w : World) (E G : Nat) (l : List Int) (hl : l.length ≤ 15) (hG : BytL w G l) (n c : Nat) (hn : n = l.length) (x : Dc.Ins) (hx : Dc.decM Dc.ruleOf l.length (Dc.bts l) = (x, 0)) (vv vc v2 so : Int) (ir : Bool) (S : Nat → Prop) (P : World → Prop) (hS : ∀ j, S j → j < w.heap.size) (hP : ∀ W W', P W → Kp (fun j => w.heap.size ≤ j) W W' → P W')
    (H : Hid (∀ W, Kp noB w W → Calls Tryz.prog 13 #[.pointer (some ⟨E, 0, none⟩), .agg (Dc.insV x)] W fun e w' => e = .returned (.agg #[.int .i64 vv, .int .i64 vc, .int .u32 v2, .int .i64 so, .bool ir]) ∧ Kp S W w' ∧ P w')) :
    Calls Tryz.prog 19 #[.pointer (some ⟨E, 0, none⟩), .slice (some ⟨G, 0, none⟩) n c] w fun e w' => e = .returned (.tuple #[.agg #[.int .i64 vv, .int .i64 vc, .int .u32 v2, .int .i64 so, .bool ir], .bool true]) ∧ Kp S w w' ∧ P w' := by
  subst hn
  obtain ⟨T2, n2, Z2, fs2, ps2, hF⟩ := Dc.vlF
  obtain ⟨ul, us, ub, ua, ue⟩ := hF.ops
  have e1 := hF.agg; have e2 := hF.size; have e3 := hF.zero
  have HD : Hid (∀ W, Kp noB w W → Calls Tryz.prog 44 #[.slice (some ⟨G, 0, none⟩) l.length c] W fun r w' => r = .returned (.tuple #[.agg (Dc.insV x), .int .i64 0]) ∧ Kp noB W w') := fun W k => decodes W G l hl ⟨(k.block G (Array.getElem?_eq_some_iff.1 hG.1).1 id).trans hG.1, hG.2⟩ c x 0 hx
  obtain ⟨Q, hQ⟩ : ∃ Q, Q = w.heap.size := ⟨_, rfl⟩
  obtain ⟨W0, hW0⟩ : ∃ W, W = w.alloc (.cells #[.int .i64 0, .int .i64 0, .int .u32 0, .int .i64 0, .bool false] 56) := ⟨_, rfl⟩
  have k0 : Kp noB w W0 := by rw [hW0]; exact Kp.alloc _ _ _
  have rQ : W0.heap[Q]? = some (.cells #[.int .i64 0, .int .i64 0, .int .u32 0, .int .i64 0, .bool false] 56 (0, 0)) := by rw [hW0, hQ]; exact (MapKept.heap_alloc w _).1
  obtain ⟨I, hI⟩ : ∃ I, I = Dc.insV x := ⟨_, rfl⟩
  have hIs : I.size = n2 := by rw [hI]; exact hF.v.cells x
  have HN : Hid (∀ W : World, (storeCells ⟨W.heap.size, 0, none⟩ I.toList).run Tryz.prog (W.alloc (.cells Z2 T2)) = .ok () (W.alloc (.cells I T2))) := fun W => by rw [hI]; exact hF.new x W
  have HG2 : Hid (∀ (W : World) (q : Nat), W.heap[q]? = some (.cells I T2 (0, 0)) → (loadCellsFrom ⟨q, 0, none⟩ 0 n2 #[]).run Tryz.prog W = .ok I W) := fun W q h => by rw [hI] at h ⊢; exact hF.get h
  rw [← hI] at H HD
  clear hF hI hG hx
  go_enter Tryz.func19, Tryz.ntmps19
  simp only [ul, us, ua]
  go_wp2_with fail
  rw [← hW0, ← hQ]
  refine Calls.mono (HD.out W0 k0) ?_; rintro e w1 ⟨rfl, k1⟩
  have hst := HN.out w1
  have kA := Kp.alloc noB w1 (.cells I T2)
  have rI := (MapKept.heap_alloc w1 (.cells I T2)).1
  obtain ⟨X, hX⟩ : ∃ X, X = w1.heap.size := ⟨_, rfl⟩
  obtain ⟨W2, hW2⟩ : ∃ W, W = w1.alloc (.cells I T2) := ⟨_, rfl⟩
  rw [← hX, ← hW2] at rI
  rw [← hW2] at kA
  have hld := HG2.out W2 X rI
  have k2 := (k0.trans k1).trans kA
  have rQ2 := ((k1.trans kA).block Q (Array.getElem?_eq_some_iff.1 rQ).1 id).trans rQ
  have HQ : Hid (Q = w.heap.size) := hQ
  clear hQ hW0 HD rQ k1 kA k0
  go_upto_region 4 with fail
  rw [← hW2, ← hX]
  clear hW2 hX hst
  go_wp2_with fail
  refine Calls.mono (H.out W2 k2) ?_; rintro e w3 ⟨rfl, k3, p3⟩
  have nQ : ¬ S Q := fun g => by have := hS _ g; have := HQ.out; omega
  have o3 := (k3.block Q (Array.getElem?_eq_some_iff.1 rQ2).1 nQ).trans rQ2
  have c0 : w3.cell? ⟨Q, 0, none⟩ = some (.int .i64 0) := by rw [cell_at o3]; rfl
  have c1 : w3.cell? ⟨Q, 1, none⟩ = some (.int .i64 0) := by rw [cell_at o3]; rfl
  have c2 : w3.cell? ⟨Q, 2, none⟩ = some (.int .u32 0) := by rw [cell_at o3]; rfl
  have c3 : w3.cell? ⟨Q, 3, none⟩ = some (.int .i64 0) := by rw [cell_at o3]; rfl
  have c4 : w3.cell? ⟨Q, 4, none⟩ = some (.bool false) := by rw [cell_at o3]; rfl
  have z0 : w3.frozen? ⟨Q, 0, none⟩ = false := frozen_at o3
  have z1 : w3.frozen? ⟨Q, 1, none⟩ = false := frozen_at o3
  have z2 : w3.frozen? ⟨Q, 2, none⟩ = false := frozen_at o3
  have z3 : w3.frozen? ⟨Q, 3, none⟩ = false := frozen_at o3
  have z4 : w3.frozen? ⟨Q, 4, none⟩ = false := frozen_at o3
  obtain ⟨W4, hW4⟩ : ∃ W, W = ((((w3.setCell ⟨Q, 0, none⟩ (.int .i64 vv)).setCell ⟨Q, 1, none⟩ (.int .i64 vc)).setCell ⟨Q, 2, none⟩ (.int .u32 v2)).setCell ⟨Q, 3, none⟩ (.int .i64 so)).setCell ⟨Q, 4, none⟩ (.bool ir) := ⟨_, rfl⟩
  have o4 : W4.heap[Q]? = some (.cells #[.int .i64 vv, .int .i64 vc, .int .u32 v2, .int .i64 so, .bool ir] 56 (0, 0)) := by rw [hW4]; exact heap_setCell_at (heap_setCell_at (heap_setCell_at (heap_setCell_at (heap_setCell_at o3 _) _) _) _) _
  have k4 : Kp (fun j => j = Q) w3 W4 := by
    rw [hW4]
    have k : ∀ (W : World) (o : Nat) (v : Value), Kp (fun j => j = Q) W (W.setCell ⟨Q, o, none⟩ v) := fun W o v => Kp.setCell (S := fun j => j = Q) W (p := ⟨Q, o, none⟩) rfl v
    exact ((((k _ _ _).trans (k _ _ _)).trans (k _ _ _)).trans (k _ _ _)).trans (k _ _ _)
  have y0 : W4.cell? ⟨Q, 0, none⟩ = some (.int .i64 vv) := by rw [cell_at o4]; rfl
  have y1 : W4.cell? ⟨Q, 1, none⟩ = some (.int .i64 vc) := by rw [cell_at o4]; rfl
  have y2 : W4.cell? ⟨Q, 2, none⟩ = some (.int .u32 v2) := by rw [cell_at o4]; rfl
  have y3 : W4.cell? ⟨Q, 3, none⟩ = some (.int .i64 so) := by rw [cell_at o4]; rfl
  have y4 : W4.cell? ⟨Q, 4, none⟩ = some (.bool ir) := by rw [cell_at o4]; rfl
  have HZ : Hid (Kp S w W4 ∧ P W4) := ⟨((k2.mono (fun _ _ f => f.elim)).trans k3).over k4 (fun j hj e => absurd hj (by have := HQ.out; omega)), hP _ _ p3 (k4.mono (fun j _ e => by have := HQ.out; omega))⟩
  have HW4 : Hid (((((w3.setCell ⟨Q, 0, none⟩ (.int .i64 vv)).setCell ⟨Q, 1, none⟩ (.int .i64 vc)).setCell ⟨Q, 2, none⟩ (.int .u32 v2)).setCell ⟨Q, 3, none⟩ (.int .i64 so)).setCell ⟨Q, 4, none⟩ (.bool ir) = W4) := hW4.symm
  clear hW4 k4 o4 o3 k3 p3 rQ2 k2 rI hld
  go_wp2
  rw [HW4.out]
  refine bodyPost_ret (v := .tuple #[.agg #[.int .i64 vv, .int .i64 vc, .int .u32 v2, .int .i64 so, .bool ir], .bool true]) (by simp [results, Tryz.results19, go_sem, y0, y1, y2, y3, y4]) rfl ⟨rfl, HZ.out⟩
end Go.Proofs.YtiagfmkinefidaaGreat.Rm
namespace Go.Proofs.YtiagfmkinefidaaGreat.Rm
open Go.ChangeShapes Go.WideShapes Go.ChangeAt Go.RowKit Go.Maps
set_option linter.unusedVariables false
set_option maxRecDepth 20000
def FlY (w : World) (X : Nat) (s d : Int) (k : Nat) (s7 : Value) (wr : World) : Prop :=
  ∃ (i : Nat) (cs : Array Value), s7 = .int .i64 i ∧ i ≤ 6 ∧ 6 - i ≤ k ∧ PAt wr X cs ∧ (∀ j, j < i → SgC cs (10 + j * 9) (datS s d)) ∧ cs[64]? = some (.int .u32 0) ∧ cs[66]? = some (.int .u32 0) ∧ (∀ k, (k < 10 ∨ 64 ≤ k) → cs[k]? = cpuZ[k]?) ∧ Kp (fun j => j = X) w wr
set_option maxHeartbeats 2000000 in
theorem flat17 (w : World) (r : Int) (r0 : -9223372036854775808 ≤ r) (r1 : r ≤ 9223372036854775807) : Calls Tryz.prog 17 #[.int .i64 r] w fun e w' => ∃ cs, e = .returned (.agg cs) ∧ WfC cs ∧ CpC cs (flatP (IntKind.u16.wrap (r.tmod 4)) (r.tmod 4) 1 0) ∧ (cs[9]? = some (.int .u32 2) ∧ ∀ k, (k < 9 ∨ 65 ≤ k) → cs[k]? = cpuZ[k]?) ∧ Kp noB w w' := by
  obtain ⟨T, n, Z, h⟩ := vlP
  obtain ⟨vl, vs, va, vb⟩ := h.ops
  have g1 := h.agg; have g2 := h.size; have g3 := h.zero
  obtain ⟨d, hd⟩ : ∃ d, d = r.tmod 4 := ⟨_, rfl⟩
  obtain ⟨s, hs⟩ : ∃ s, s = IntKind.u16.wrap d := ⟨_, rfl⟩
  rw [← hd, ← hs]
  obtain ⟨W0, hW0⟩ : ∃ W, W = ((((w.alloc (.cells Z T)).alloc (.cells Z T)).alloc (.cells #[.int .u32 0, .int .u32 4294967295, .int .i64 10, .bool false, .int .i64 d, .bool true, .bool true] 27)).alloc (.cells #[.int .u32 0, .int .u32 4294967295, .int .i64 2, .bool false, .int .i64 d, .bool true, .bool true] 27)) := ⟨_, rfl⟩
  obtain ⟨A, hA⟩ : ∃ A, w.heap.size = A := ⟨_, rfl⟩
  have kA := Kp.alloc noB w (.cells Z T)
  have kB := Kp.alloc noB (w.alloc (.cells Z T)) (.cells Z T)
  have kC := Kp.alloc noB ((w.alloc (.cells Z T)).alloc (.cells Z T)) (.cells #[.int .u32 0, .int .u32 4294967295, .int .i64 10, .bool false, .int .i64 d, .bool true, .bool true] 27)
  have kD := Kp.alloc noB (((w.alloc (.cells Z T)).alloc (.cells Z T)).alloc (.cells #[.int .u32 0, .int .u32 4294967295, .int .i64 10, .bool false, .int .i64 d, .bool true, .bool true] 27)) (.cells #[.int .u32 0, .int .u32 4294967295, .int .i64 2, .bool false, .int .i64 d, .bool true, .bool true] 27)
  have k0 : Kp noB w W0 := by rw [hW0]; exact ((kA.trans kB).trans kC).trans kD
  have pA : PAt W0 A Z := by rw [hW0, ← hA]; exact (((h.at h.wf w).kp kB (fun f => f)).kp kC (fun f => f)).kp kD (fun f => f)
  have pX : PAt W0 (A + 1) Z := by
    have := h.at h.wf (w.alloc (.cells Z T))
    rw [show (w.alloc (.cells Z T)).heap.size = A + 1 by simp [hA]] at this
    rw [hW0]
    exact (this.kp kC (fun f => f)).kp kD (fun f => f)
  have rC : W0.heap[A + 2]? = some (.cells #[.int .u32 0, .int .u32 4294967295, .int .i64 10, .bool false, .int .i64 d, .bool true, .bool true] 27 (0, 0)) := by
    have := (MapKept.heap_alloc ((w.alloc (.cells Z T)).alloc (.cells Z T)) (.cells #[.int .u32 0, .int .u32 4294967295, .int .i64 10, .bool false, .int .i64 d, .bool true, .bool true] 27)).1
    rw [show ((w.alloc (.cells Z T)).alloc (.cells Z T)).heap.size = A + 2 by simp [hA]] at this
    rw [hW0]
    exact (kD.block _ (by simp [hA]) (fun f => f)).trans this
  have rD : W0.heap[A + 3]? = some (.cells #[.int .u32 0, .int .u32 4294967295, .int .i64 2, .bool false, .int .i64 d, .bool true, .bool true] 27 (0, 0)) := by
    have := (MapKept.heap_alloc (((w.alloc (.cells Z T)).alloc (.cells Z T)).alloc (.cells #[.int .u32 0, .int .u32 4294967295, .int .i64 10, .bool false, .int .i64 d, .bool true, .bool true] 27)) (.cells #[.int .u32 0, .int .u32 4294967295, .int .i64 2, .bool false, .int .i64 d, .bool true, .bool true] 27)).1
    rw [show (((w.alloc (.cells Z T)).alloc (.cells Z T)).alloc (.cells #[.int .u32 0, .int .u32 4294967295, .int .i64 10, .bool false, .int .i64 d, .bool true, .bool true] 27)).heap.size = A + 3 by simp [hA]] at this
    rw [hW0]
    exact this
  have HD : Hid (∀ W, Kp (fun j => j = A + 1) W0 W → W.cell? ⟨A + 3, 0, none⟩ = some (.int .u32 0) ∧ W.cell? ⟨A + 3, 1, none⟩ = some (.int .u32 4294967295) ∧ W.cell? ⟨A + 3, 2, none⟩ = some (.int .i64 2) ∧ W.cell? ⟨A + 3, 3, none⟩ = some (.bool false) ∧ W.cell? ⟨A + 3, 4, none⟩ = some (.int .i64 d) ∧ W.cell? ⟨A + 3, 5, none⟩ = some (.bool true) ∧ W.cell? ⟨A + 3, 6, none⟩ = some (.bool true)) := fun W k => by
    have r := (k.block (A + 3) (Array.getElem?_eq_some_iff.1 rD).1 (by omega)).trans rD
    refine ⟨?_, ?_, ?_, ?_, ?_, ?_, ?_⟩ <;> (rw [cell_at r]; rfl)
  have HCd : Hid (∀ W, Kp (fun j => j = A + 1) W0 W → W.cell? ⟨A + 2, 0, none⟩ = some (.int .u32 0) ∧ W.cell? ⟨A + 2, 1, none⟩ = some (.int .u32 4294967295) ∧ W.cell? ⟨A + 2, 2, none⟩ = some (.int .i64 10) ∧ W.cell? ⟨A + 2, 3, none⟩ = some (.bool false) ∧ W.cell? ⟨A + 2, 4, none⟩ = some (.int .i64 d) ∧ W.cell? ⟨A + 2, 5, none⟩ = some (.bool true) ∧ W.cell? ⟨A + 2, 6, none⟩ = some (.bool true)) := fun W k => by
    have r := (k.block (A + 2) (Array.getElem?_eq_some_iff.1 rC).1 (by omega)).trans rC
    refine ⟨?_, ?_, ?_, ?_, ?_, ?_, ?_⟩ <;> (rw [cell_at r]; rfl)
  have HV : Hid (VlP T n Z) := h
  have HSo : Hid (∀ (W : World) (cs : Array Value), PAt W (A + 1) cs → ∀ k, k < 83 → ∃ v, W.cell? ⟨A + 1, k, none⟩ = some v) := fun W cs p k hk => p.some hk
  clear kA kB kC kD rC rD
  go_enter Tryz.func17, Tryz.ntmps17
  simp only [vl, vs, va, vb] at *
  go_wp2_with fail
  simp only [← hd, ← hs]
  rw [← hW0]
  have HSs : Hid (s = IntKind.u16.wrap d) := hs
  have HAw : Hid (w.heap.size = A) := hA
  clear hW0 hA hd hs
  go_loopg [7] 6 (FlY W0 (A + 1) s d)
  case atStart => exact ⟨0, Z, rfl, by omega, by omega, pX, fun j hj => absurd hj (by omega), HV.out.z64, HV.out.z66, (fun k _ => by rw [HV.out.z]), Kp.refl _ _⟩
  case round =>
    obtain ⟨i, cs, rfl, hi, hik, pr, hsg, h64, h66, hrs, kk⟩ := hrel
    by_cases hlt : i < 6
    · have hz : (i : Int) < 6 := by omega
      have hz' : (0 : Int) ≤ i ∧ (i : Int) < 6 := by omega
      obtain ⟨e0, e1, e2, e3, e4, e5, e6⟩ := HD.out wr kk
      have P9 := pr.set9 (10 + i * 9) (datS s d)
      have k9 := kk.trans (kp_setW9 wr (A + 1) (10 + i * 9) (datS s d))
      have f9 := pr.fz
      obtain ⟨u0, t0⟩ := HSo.out wr cs pr (10 + i * 9) (by omega)
      obtain ⟨u1, t1⟩ := HSo.out wr cs pr (10 + i * 9 + 1) (by omega)
      obtain ⟨u2, t2⟩ := HSo.out wr cs pr (10 + i * 9 + 2) (by omega)
      obtain ⟨u3, t3⟩ := HSo.out wr cs pr (10 + i * 9 + 3) (by omega)
      obtain ⟨u4, t4⟩ := HSo.out wr cs pr (10 + i * 9 + 4) (by omega)
      obtain ⟨u5, t5⟩ := HSo.out wr cs pr (10 + i * 9 + 5) (by omega)
      obtain ⟨u6, t6⟩ := HSo.out wr cs pr (10 + i * 9 + 6) (by omega)
      obtain ⟨u7, t7⟩ := HSo.out wr cs pr (10 + i * 9 + 7) (by omega)
      obtain ⟨u8, t8⟩ := HSo.out wr cs pr (10 + i * 9 + 8) (by omega)
      obtain ⟨j, hj⟩ : ∃ j, j = i + 1 := ⟨_, rfl⟩
      have HJ : Hid (j = i + 1) := hj
      have HK : Hid (6 - i ≤ gk) := hik
      have HSG : Hid (∀ m, m < i + 1 → SgC (set9 cs (10 + i * 9) (datS s d)) (10 + m * 9) (datS s d)) := fun m hm => by
        by_cases e : m = i
        · subst e; exact set9_at _ (by rw [pr.2.s]; omega)
        · exact (hsg m (by omega)).ne (by omega)
      have H64 : Hid ((set9 cs (10 + i * 9) (datS s d))[64]? = some (.int .u32 0)) := by rw [set9_ne _ (by omega)]; exact h64
      have H66 : Hid ((set9 cs (10 + i * 9) (datS s d))[66]? = some (.int .u32 0)) := by rw [set9_ne _ (by omega)]; exact h66
      have HRS : Hid (∀ k, (k < 10 ∨ 64 ≤ k) → (set9 cs (10 + i * 9) (datS s d))[k]? = cpuZ[k]?) := fun k hk => by rw [set9_ne _ (by omega)]; exact hrs k hk
      have HP9 : Hid _ := P9
      have HK9 : Hid _ := k9
      clear hik hj hsg h64 h66 P9 k9 pr hrs
      go_wp2_with fail
      go_roundg (6 - j)
      case measure => have := HJ.out; have := HK.out; omega
      case rel =>
        exact ⟨j, set9 cs (10 + i * 9) (datS s d), by rw [HJ.out]; rfl, by have := HJ.out; omega, Nat.le_refl _, HP9.out, fun m hm => HSG.out m (by rw [HJ.out] at hm; exact hm), H64.out, H66.out, HRS.out, HK9.out⟩
    · obtain rfl : i = 6 := by omega
      clear hi hik hlt
      obtain ⟨e0, e1, e2, e3, e4, e5, e6⟩ := HCd.out wr kk
      have P9 := pr.set9 19 (codS s d)
      have k9 := kk.trans (kp_setW9 wr (A + 1) 19 (codS s d))
      have f9 := pr.fz
      obtain ⟨u0, t0⟩ := HSo.out wr cs pr 19 (by omega)
      obtain ⟨u1, t1⟩ := HSo.out wr cs pr 20 (by omega)
      obtain ⟨u2, t2⟩ := HSo.out wr cs pr 21 (by omega)
      obtain ⟨u3, t3⟩ := HSo.out wr cs pr 22 (by omega)
      obtain ⟨u4, t4⟩ := HSo.out wr cs pr 23 (by omega)
      obtain ⟨u5, t5⟩ := HSo.out wr cs pr 24 (by omega)
      obtain ⟨u6, t6⟩ := HSo.out wr cs pr 25 (by omega)
      obtain ⟨u7, t7⟩ := HSo.out wr cs pr 26 (by omega)
      obtain ⟨u8, t8⟩ := HSo.out wr cs pr 27 (by omega)
      obtain ⟨u9, t9⟩ := HSo.out wr cs pr 64 (by omega)
      obtain ⟨v9, x9⟩ := HSo.out wr cs pr 9 (by omega)
      have PF := (P9.set 64 (v := .int .u32 1) rfl).set 9 (v := .int .u32 2) rfl
      have kF := (k9.trans (Kp.setCell (S := fun j => j = A + 1) _ (p := ⟨A + 1, 64, none⟩) rfl (.int .u32 1))).trans (Kp.setCell (S := fun j => j = A + 1) _ (p := ⟨A + 1, 9, none⟩) rfl (.int .u32 2))
      have hF := flat_cells pr.2 hsg h66
      have hR9 : (((set9 cs 19 (codS s d)).setIfInBounds 64 (.int .u32 1)).setIfInBounds 9 (.int .u32 2))[9]? = some (.int .u32 2) := Array.getElem?_setIfInBounds_self_of_lt (by rw [Array.size_setIfInBounds, (set9_wf pr.2 _ _).s]; omega)
      have hRR : ∀ k, (k < 9 ∨ 65 ≤ k) → (((set9 cs 19 (codS s d)).setIfInBounds 64 (.int .u32 1)).setIfInBounds 9 (.int .u32 2))[k]? = cpuZ[k]? := fun k hk => by
        rw [Array.getElem?_setIfInBounds_ne (by omega), Array.getElem?_setIfInBounds_ne (by omega), set9_ne _ (by omega)]
        exact hrs k (by omega)
      have HL : Hid (∀ W cs, PAt W (A + 1) cs → (loadCellsFrom ⟨A + 1, 0, none⟩ 0 n #[]).run Tryz.prog W = .ok cs W) := fun W cs p => HV.out.get p
      have pA2 := pA.kp kF (by omega)
      have kG : Kp noB w _ := (k0.trans (Kp.refl _ _)).over kF (fun j hj e => absurd hj (by have := HAw.out; omega))
      obtain ⟨cF, hcF⟩ : ∃ c, c = (((set9 cs 19 (codS s d)).setIfInBounds 64 (.int .u32 1)).setIfInBounds 9 (.int .u32 2)) := ⟨_, rfl⟩
      have hWF : WfC cF := by rw [hcF]; exact PF.2
      rw [← hcF] at hF PF hR9 hRR
      have HR9 : Hid _ := And.intro hR9 hRR
      clear hR9 hRR hrs
      obtain ⟨WF, hWFe⟩ : ∃ W, W = ((setW9 wr (A + 1) 19 (codS s d)).setCell ⟨A + 1, 64, none⟩ (.int .u32 1)).setCell ⟨A + 1, 9, none⟩ (.int .u32 2) := ⟨_, rfl⟩
      rw [← hWFe] at PF kF pA2 kG
      clear hcF P9 k9 pA pX HD HCd HSo hsg h64 h66 pr kk
      unfold setW9 codS at hWFe
      simp only at hWFe
      have hld := HL.out WF cF PF
      have hst := VlP.put pA2 hWF
      have hld2 := HV.out.get (pA2.put hWF)
      have hsz : cF.size = n := by rw [hWF.s, HV.out.s]
      have kH : Kp noB w (WF.setRow A cF) := kG.over (Kp.setRow (S := fun j => j = A) WF rfl cF) (fun j hj e => absurd hj (by have := HAw.out; omega))
      go_upto_region 12 with fail
      rw [← hWFe]
      clear hWFe
      go_wp2
      refine bodyPost_ret (v := .agg cF) ?_ rfl ⟨cF, rfl, hWF, hF, HR9.out, kH⟩
      simp [results, Tryz.results17, go_sem, ← HV.out.t, g1, g2, hld2]
end Go.Proofs.YtiagfmkinefidaaGreat.Rm
namespace Go.Proofs.YtiagfmkinefidaaGreat.Bs
open Go.ChangeShapes Go.WideShapes Go.ChangeAt Go.RowKit
open Go.Proofs.YtiagfmkinefidaaGreat.Ut (Kp heap_lt heap_kept heap_set heap_new noB isB kpB)
set_option linter.unusedVariables false
set_option maxRecDepth 20000
theorem rmNo {w w' : World} (h : Rm.Kp Rm.noB w w') : Kp noB w w' := ⟨h.os, h.tape, h.output, h.size, fun k hk _ => h.block k hk (fun f => f)⟩
theorem noRm {w w' : World} (h : Kp noB w w') : Rm.Kp Rm.noB w w' := ⟨h.os, h.tape, h.output, h.size, fun k hk _ => h.block k hk (fun f => f)⟩
/-- Both memories, new. -/
theorem both9_nil (w : World) : Calls Tryz.prog 40 #[.int .i64 16, .slice none 0 0, .slice none 0 0] w fun e w' => ∃ M R V0 V1 V2 V3, e = .returned (.tuple #[.pointer (some ⟨M + 3, 0, none⟩), .pointer (some ⟨R, 0, none⟩)]) ∧ Hs w w' (two (sysR (ramRs M (Rm.mem0 16))) (sysR (memRs R (.cells #[V0, V1, V2, V3, .bool false] 187 (0, 0))))) := by
  have HM : Hid _ := Rm.new_ok w 16 (by decide) (by decide)
  have HR : Hid (∀ W, _) := fun W => Rm.refNew_ok W 16 (by decide) (by decide)
  go_enter Tryz.func40, Tryz.ntmps40
  go_wp2_with fail
  refine Calls.mono HM.out ?_; rintro e w1 ⟨rfl, m1, z1, b1⟩
  obtain ⟨M, hM⟩ : ∃ M, M = w.heap.size := ⟨_, rfl⟩
  rw [← hM] at m1
  have ml : M + 4 + 16 ≤ w1.heap.size := m1.lt
  have s1 : Sys w1 (Rm.inRam M 16) (ramRs M (Rm.mem0 16)) := ⟨fun _ => 6, fun j => by
    by_cases q : j = 6
    · subst q
      exact ⟨Rm.inRam M 16, ⟨m1, fun k g => g⟩, fun k g => ⟨rfl, g, by have : k < M + 4 + 16 := g.2; omega⟩⟩
    · exact ⟨noB, by unfold ramRs; rw [if_neg q]; trivial, fun _ f => f.elim⟩⟩
  have P1 : Hid (Hs w w1 (two (sysR (ramRs M (Rm.mem0 16))) .none)) := by
    rw [← none_0]
    exact (Hs.none w).new rfl s1 (fun k g => ⟨by have : M ≤ k := g.1; omega, by have : k < M + 4 + 16 := g.2; omega⟩) (kBelow b1)
  clear m1 z1 b1 ml s1 HM
  go_wp2_with fail
  rw [← hM]
  clear hM
  refine Calls.mono (HR.out w1) ?_; rintro e w2 ⟨R, rfl, r1, r2, r3⟩
  have P2 : Hid (Hs w w2 (two (sysR (ramRs M (Rm.mem0 16))) (sysR (memRs R.r (.cells #[.slice (some ⟨R.b, 0, none⟩) (4096 * 16) (4096 * 16), .slice (some ⟨R.o, 0, none⟩) 16 16, .slice (some ⟨R.t, 0, none⟩) (64 * 16) (64 * 16), .slice (some ⟨R.q, 0, none⟩) (64 * 16) (64 * 16), .bool false] 187 (0, 0)))))) := by
    rw [← two_1 _ .none]
    refine P1.out.new rfl (T' := isB R.r) ?_ (fun k (g : k = R.r) => ⟨by rw [g]; exact r2 _ (.inl rfl), by rw [g]; exact heap_lt r1.st⟩) (kRm r3)
    refine ⟨fun _ => 6, fun j => ?_⟩
    by_cases q : j = 6
    · subst q
      exact ⟨isB R.r, ⟨rfl, r1.st⟩, fun k g => ⟨rfl, g, by rw [show k = R.r from g]; exact heap_lt r1.st⟩⟩
    · exact ⟨noB, by unfold memRs; rw [if_neg q]; trivial, fun _ f => f.elim⟩
  clear r1 r2 r3 P1 HR
  generalize R.r = r at *
  generalize Value.slice (some ⟨R.b, 0, none⟩) (4096 * 16) (4096 * 16) = V0 at P2
  generalize Value.slice (some ⟨R.o, 0, none⟩) 16 16 = V1 at P2
  generalize Value.slice (some ⟨R.t, 0, none⟩) (64 * 16) (64 * 16) = V2 at P2
  generalize Value.slice (some ⟨R.q, 0, none⟩) (64 * 16) (64 * 16) = V3 at P2
  go_wp2_with fail
  refine wp_loop_rounds 1 ?_
  rw [rounds_succ]
  go_wp2_with fail
  refine wp_loop_rounds 1 ?_
  rw [rounds_succ]
  go_wp2
  go_ret2
  exact ⟨M, r, V0, V1, V2, V3, rfl, P2.out⟩
/-- The pages that are kept, and vmem's own block. -/
def tlR (V K B pl tn : Nat) : Res := ⟨fun w S => (S V ∧ ∀ j, Rm.inTlb K j → S j) ∧ w.heap[V]? = some (.cells #[.pointer (some ⟨B + 3, 0, none⟩), .pointer (some ⟨K + 1, 0, none⟩)] 93 (0, 0)) ∧ ∃ D, Rm.TlbD w K B pl tn D,
  fun h k d => ⟨h.1, (k.block V (Array.getElem?_eq_some_iff.1 h.2.1).1 (d _ h.1.1)).trans h.2.1, by obtain ⟨D, t⟩ := h.2.2; exact ⟨D, t.kp (rmK k) (fun j hj => d j (h.1.2 j hj))⟩⟩⟩
theorem vNew17 (w : World) (B p : Nat) (h : p ≤ 64) : Calls Tryz.prog 11 #[.pointer (some ⟨B + 3, 0, none⟩), .int .i64 p] w fun e w' => ∃ V, e = .returned (.tuple #[.pointer (some ⟨V, 0, none⟩), .int .i64 0]) ∧ (tlR V w.heap.size B p 0).R w' (fun j => j = V ∨ Rm.inTlb w.heap.size j) ∧ (∀ k, (k = V ∨ Rm.inTlb w.heap.size k) → w.heap.size ≤ k ∧ k < w'.heap.size) ∧ V ≠ w.heap.size ∧ V ≠ w.heap.size + 1 ∧ Kp noB w w' := by
  have cN := Rm.tlNew_ok w B p h
  go_enter Tryz.func11, Tryz.ntmps11
  go_wp2_with (go_at_call 23; refine cN.mono ?_; rintro e w1 ⟨rfl, t1, k1⟩)
  go_ret2
  have kA := Rm.Kp.alloc Rm.noB w1 (.cells #[.pointer (some ⟨B + 3, 0, none⟩), .pointer (some ⟨w.heap.size + 1, 0, none⟩)] 93)
  have t1l := t1.lt
  have s1 : (w1.alloc (.cells #[.pointer (some ⟨B + 3, 0, none⟩), .pointer (some ⟨w.heap.size + 1, 0, none⟩)] 93)).heap.size = w1.heap.size + 1 := by simp
  refine ⟨w1.heap.size, rfl, ⟨⟨.inl rfl, fun j hj => .inr hj⟩, (MapKept.heap_alloc w1 _).1, ⟨_, t1.kp kA (fun _ _ f => f)⟩⟩, fun k g => ?_, by omega, by omega, rmNo (k1.trans kA)⟩
  have := k1.size
  rw [s1]
  rcases g with e | e | e <;> omega
end Go.Proofs.YtiagfmkinefidaaGreat.Bs
namespace Go.Proofs.YtiagfmkinefidaaGreat.Bs
open Go.ChangeShapes Go.WideShapes Go.ChangeAt Go.RowKit
open Go.Proofs.YtiagfmkinefidaaGreat.Ut (Kp heap_lt heap_kept heap_set heap_new noB isB kpB)
set_option linter.unusedVariables false
set_option maxRecDepth 20000
/-! ### a struct that holds a whole processor is built -/
def shapeOf (P : Program) (t : TypeId) : Option (Array Value × List (Nat × Nat)) :=
  match P.info? t, P.underlying t with
  | some it, some (.struct fields) =>
    match it.zero, fields.toList.mapM (fun f => (P.info? f.type).map fun i => (f.offset, i.size)) with
    | some z, some pl => some (z.cells, pl)
    | _, _ => none
  | _, _ => none
theorem built_of {P : Program} {t : TypeId} {z : Array Value} {pl : List (Nat × Nat)} (h : shapeOf P t = some (z, pl)) (parts : List (Nat × Value)) : P.built t parts = Instr.fill (pl.toArray[·]?) z parts := by
  unfold shapeOf at h
  unfold Program.built
  cases h1 : P.info? t with
  | none => simp [h1] at h
  | some it =>
    cases h2 : P.underlying t with
    | none => simp [h1, h2] at h
    | some d =>
      cases d <;> try (simp [h1, h2] at h; done)
      case struct fields =>
        cases h3 : it.zero with
        | none => simp [h1, h2, h3] at h
        | some zz =>
          cases h4 : fields.toList.mapM (fun f => (P.info? f.type).map fun i => (f.offset, i.size)) with
          | none => simp [h1, h2, h3, h4] at h
          | some p2 =>
            simp only [h1, h2, h3, h4, Option.some.injEq, Prod.mk.injEq] at h
            obtain ⟨rfl, rfl⟩ := h
            simp only [h3, h4]
theorem fold_at0 (l : List Value) : ∀ (k : Nat) (z : Array Value), k + l.length ≤ z.size → ((l.zipIdx k).foldl (fun cs (x : Value × Nat) => cs.setIfInBounds (0 + x.2) x.1) z).toList = z.toList.take k ++ l ++ z.toList.drop (k + l.length) := by
  induction l with
  | nil => intro k z h; simp
  | cons v l ih =>
    intro k z h
    simp only [List.length_cons] at h
    rw [List.zipIdx_cons, List.foldl_cons, ih (k + 1) _ (by simp; omega)]
    have hk : k < z.toList.length := by rw [Array.length_toList]; omega
    have h1 : (z.toList.set k v).take k = z.toList.take k := by rw [List.take_set]; exact List.set_eq_of_length_le (by rw [List.length_take]; omega)
    have h2 : (z.toList.set k v)[k]? = some v := List.getElem?_set_self hk
    simp only [Nat.zero_add, Array.toList_setIfInBounds]
    rw [List.take_add_one, List.drop_set_of_lt (by omega), h1, h2, List.length_cons, show k + 1 + l.length = k + (l.length + 1) by omega]
    simp
theorem built_cpu {P : Program} {t : TypeId} {z : Array Value} {pl : List (Nat × Nat)} (h : shapeOf P t = some (z, (0, 83) :: (83, 1) :: (84, 1) :: pl)) (hz : 85 ≤ z.size) (cs : Array Value) (hs : cs.size = 83) (p q : Addr) :
    P.built t [(0, .agg cs), (1, .pointer (some p)), (2, .pointer (some q))] = some (cs ++ (((z.toList.drop 83).set 0 (.pointer (some p))).set 1 (.pointer (some q))).toArray) := by
  rw [built_of h]
  have e : (cs.zipIdx.foldl (fun cs (x : Value × Nat) => cs.setIfInBounds (0 + x.2) x.1) z) = cs ++ (z.toList.drop 83).toArray := by
    apply Array.toList_inj.1
    rw [← Array.foldl_toList, Array.toList_zipIdx, fold_at0 cs.toList 0 z (by simp [hs]; omega)]
    simp [hs]
  have e' : Array.foldl (fun cs x => cs.setIfInBounds x.snd x.fst) z cs.zipIdx 0 83 = cs ++ (z.toList.drop 83).toArray := by simpa [hs] using e
  have h1 : ¬ z.size < 83 := by omega
  have h2 : 84 ≤ 83 + (z.size - 83) := by omega
  have h3 : 85 ≤ 83 + (z.size - 83) := by omega
  simp [Instr.fill, Value.cells, hs, e', h1, h2, h3]
theorem shape_env : ∃ z, shapeOf Tryz.prog 53 = some (z, [(0, 83), (83, 1), (84, 1)]) ∧ z.size = 85 := by
  have h : (shapeOf Tryz.prog 53).map (fun p => (p.1.size, p.2)) = some (85, [(0, 83), (83, 1), (84, 1)]) := by kernel_rfl
  obtain ⟨⟨z, pl⟩, h1, h2⟩ := Option.map_eq_some_iff.1 h
  simp only [Prod.mk.injEq] at h2
  rw [h1, h2.2]
  exact ⟨z, rfl, h2.1⟩
theorem built_env (cs : Array Value) (hs : cs.size = 83) (p q : Addr) : Tryz.prog.built 53 [(0, .agg cs), (1, .pointer (some p)), (2, .pointer (some q))] = some (cs ++ #[.pointer (some p), .pointer (some q)]) := by
  obtain ⟨z, h, hz⟩ := shape_env
  rw [built_cpu h (by omega) cs hs p q]
  have hl : (z.toList.drop 83).length = 2 := by simp [hz]
  match hd : z.toList.drop 83, hl with
  | [a, b], _ => rfl
theorem shape_ref : ∃ z pl, shapeOf Tryz.prog 126 = some (z, (0, 83) :: (83, 1) :: (84, 1) :: pl) ∧ 85 ≤ z.size := by
  have h : (shapeOf Tryz.prog 126).map (fun p => (decide (85 ≤ p.1.size), p.2.take 3)) = some (true, [(0, 83), (83, 1), (84, 1)]) := by kernel_rfl
  obtain ⟨⟨z, pl⟩, h1, h2⟩ := Option.map_eq_some_iff.1 h
  simp only [Prod.mk.injEq, decide_eq_true_eq] at h2
  refine ⟨z, pl.drop 3, ?_, h2.1⟩
  rw [h1]
  have := List.take_append_drop 3 pl
  rw [h2.2] at this
  rw [← this]
  rfl
theorem built_ref (cs : Array Value) (hs : cs.size = 83) (p q : Addr) : ∃ c, Tryz.prog.built 126 [(0, .agg cs), (1, .pointer (some p)), (2, .pointer (some q))] = some c := by
  obtain ⟨z, pl, h, hz⟩ := shape_ref
  exact ⟨_, built_cpu h hz cs hs p q⟩
theorem run_of_build {P : Program} {t : TypeId} {parts : Array (Nat × Operand)} {ps : Array (Nat × Value)} {o : Oper} {ev : Operand → Value} {v : Value} {w : World} (ho : o.op = .build t parts) (hp : (parts.map fun (i, x) => (i, ev x)) = ps) (h : (Instr.build t ps).run P w = .ok v w) : (execOp ev o).run P w = .ok (.value v) w := by
  unfold execOp
  simp only [ho, Sem.run_bind, hp, h, Result.andThen_ok]
  rfl
def three (r r' q : Res) : Nat → Res := fun j => if j = 0 then r else if j = 1 then r' else if j = 2 then q else .none
theorem three_0 (r r' q s : Res) : updR (three r r' q) 0 s = three s r' q := by
  funext j
  match j with
  | 0 | 1 | 2 => rfl
  | n + 3 => rfl
theorem three_1 (r r' q s : Res) : updR (three r r' q) 1 s = three r s q := by
  funext j
  match j with
  | 0 | 1 | 2 => rfl
  | n + 3 => rfl
theorem two_2 (r r' q : Res) : updR (two r r') 2 q = three r r' q := by
  funext j
  match j with
  | 0 | 1 | 2 => rfl
  | n + 3 => rfl
/-- What Both leaves: an environment over a bus and pages that are kept, the document's beside. -/
structure Made (w w6 w' : World) (E V K : Nat) (L : Loc) (x : Bm) (cs : Array Value) : Prop where
  hs : ∃ L' : LocR, Hs w w6 (three (busR L x) (docR L' x) (tlR V K L.M 8 0))
  ea : Rm.EAt w' E cs (.pointer (some ⟨V, 0, none⟩)) (.pointer (some ⟨L.B, 0, none⟩))
  lt : w6.heap.size ≤ E
  kp : Kp noB w6 w'
def x17 : Bm := (bm0 2 (Dk.dB 1024 (Dk.dskS 0)) (Rm.mem0 16)).tell
set_option maxHeartbeats 4000000 in
theorem both17 (w : World) (cs : Array Value) (wf : Rm.WfC cs) : Calls Tryz.prog 16 #[.agg cs, .slice none 0 0] w fun e w' => ∃ E R V K L w6, e = .returned (.tuple #[.pointer (some ⟨E, 0, none⟩), .pointer (some ⟨R, 0, none⟩)]) ∧ Made w w6 w' E V K L x17 cs := by
  obtain ⟨T, nn, Z, hV⟩ := Rm.vlP
  obtain ⟨vl, vs, va, vb⟩ := hV.ops
  have g1 := hV.agg; have g2 := hV.size; have g3 := hV.zero
  have g6 : cs.size = nn := by rw [wf.s, hV.s]
  have rX0 : Rm.PAt (w.alloc (.cells cs T)) w.heap.size cs := hV.at wf w
  obtain ⟨X, hX⟩ : ∃ X, X = w.heap.size := ⟨_, rfl⟩
  obtain ⟨W0, hW0⟩ : ∃ W, W = w.alloc (.cells cs T) := ⟨_, rfl⟩
  have k0 : Kp noB w W0 := by rw [hW0]; exact Kp.alloc _ _ _
  rw [← hX, ← hW0] at rX0
  have HV : Hid _ := hV
  have HWF : Hid _ := wf
  clear hV wf
  go_enter Tryz.func16, Tryz.ntmps16
  simp only [vl, vb]
  go_wp2_with fail
  rw [← hW0, ← hX]
  refine Calls.mono (both9_nil W0) ?_; rintro e w1 ⟨M, R0, V0, V1, V2, V3, rfl, h1⟩
  have P1 : Hid (Hs W0 w1 (two (sysR (ramRs M (Rm.mem0 16))) (sysR (memRs R0 (.cells #[V0, V1, V2, V3, .bool false] 187 (0, 0)))))) := h1
  clear h1 hW0
  go_wp2_with fail
  refine Calls.mono (vNew17 w1 M 8 (by decide)) ?_; rintro e w2 ⟨V, rfl, t1, t2, t3, t4, kv⟩
  obtain ⟨K, hK⟩ : ∃ K, K = w1.heap.size := ⟨_, rfl⟩
  rw [← hK] at t1 t2 t3 t4
  have P2 : Hid (Hs W0 w2 (three (sysR (ramRs M (Rm.mem0 16))) (sysR (memRs R0 (.cells #[V0, V1, V2, V3, .bool false] 187 (0, 0)))) (tlR V K M 8 0))) := by
    rw [← two_2]
    exact P1.out.new (i := 2) rfl t1 (fun k g => by rw [← hK]; exact t2 k g) kv
  clear t1 t2 t3 t4 P1 kv hK
  have HD : Hid (∀ W, Kp noB W W → Calls Tryz.prog 41 #[.int .i64 2, .int .u8 0] W fun e w' => e = .returned (.slice (some ⟨W.heap.size, 0, none⟩) 1024 1024) ∧ Dk.BytAt w' (some ⟨W.heap.size, 0, none⟩) 1024 (Dk.dskS 0) ∧ Kp noB W w') := fun W _ => by
    have e1 : Dk.secN 2 = 2 := by kernel_rfl
    have h := Dk.lDisk_any W 2 0 (by decide) (by decide) ⟨by decide, by decide⟩
    rw [e1] at h
    exact h.mono fun e w' ⟨q, r, k⟩ => ⟨q, r.at, kDk k⟩
  go_wp2_with fail
  refine Calls.mono (HD.out w2 (Kp.refl _ _)) ?_; rintro e w3 ⟨rfl, b3, k3⟩
  generalize w2.heap.size = G at *
  have P3 : Hid _ := P2.out.keep k3
  have HC : Hid (Calls Tryz.prog 12 #[.pointer (some ⟨M + 3, 0, none⟩), .slice (some ⟨G, 0, none⟩) 1024 1024] w3 fun e w' => ∃ L : Loc, e = .returned (.tuple #[.pointer (some ⟨L.B, 0, none⟩), .int .i64 0]) ∧ L.M = M ∧ Hs W0 w' (three (busR L x17) (sysR (memRs R0 (.cells #[V0, V1, V2, V3, .bool false] 187 (0, 0)))) (tlR V K M 8 0))) := by
    refine (P3.out.call (E := fun e w' r' => ∃ L : Loc, e = .returned (.tuple #[.pointer (some ⟨L.B, 0, none⟩), .int .i64 0]) ∧ L.M = M ∧ r' = busR L x17) 0 (fun T a => ?_)).mono ?_
    · refine (new_ok w3 T M (Rm.mem0 16) a (some ⟨G, 0, none⟩) 1024 1024 (Dk.dskS 0) b3 (fun j _ => Dk.dskS_byt 0 j) (by decide) (by decide)).mono ?_
      rintro e w' ⟨B, q, L, S', c1, c2, c3, c4⟩
      subst c1
      exact ⟨_, fun k => S' k ∧ k < w'.heap.size, ⟨L, q, c2, rfl⟩, Sys.lt c3, ⟨fun k g => c4.sub k g.1, c4.kp⟩, fun k g => g.2⟩
    · rintro e w' ⟨r', ⟨L, q, c2, rfl⟩, z⟩
      rw [three_0] at z
      exact ⟨L, q, c2, z⟩
  clear P2 P3 b3 k3
  go_wp2_with fail
  refine Calls.mono HC.out ?_; rintro e w4 ⟨L, rfl, eM, h4⟩
  have P4 : Hid _ := h4
  have HM : Hid (L.M = M) := eM
  clear h4 HC eM
  go_wp2_with fail
  refine Calls.mono (HD.out w4 (Kp.refl _ _)) ?_; rintro e w5 ⟨rfl, b5, k5⟩
  generalize w4.heap.size = G2 at *
  have P5 : Hid _ := P4.out.keep k5
  have HC : Hid (Calls Tryz.prog 42 #[.pointer (some ⟨R0, 0, none⟩), .slice (some ⟨G2, 0, none⟩) 1024 1024] w5 fun e w' => ∃ L' : LocR, e = .returned (.tuple #[.pointer (some ⟨L'.B, 0, none⟩), .int .i64 0]) ∧ Hs W0 w' (three (busR L x17) (docR L' x17) (tlR V K M 8 0))) := by
    refine (P5.out.call (E := fun e w' r' => ∃ L' : LocR, e = .returned (.tuple #[.pointer (some ⟨L'.B, 0, none⟩), .int .i64 0]) ∧ r' = docR L' x17) 1 (fun T a => ?_)).mono ?_
    · refine (dnew_ok w5 T R0 V0 V1 V2 V3 false a (some ⟨G2, 0, none⟩) 1024 1024 (Dk.dskS 0) b5 (fun j _ => Dk.dskS_byt 0 j) (by decide) (by decide) (Rm.mem0 16)).mono ?_
      rintro e w' ⟨B, q, L, S', c1, c2, c3, c4⟩
      subst c1
      exact ⟨_, fun k => S' k ∧ k < w'.heap.size, ⟨L, q, rfl⟩, Sys.lt c3, ⟨fun k g => c4.sub k g.1, c4.kp⟩, fun k g => g.2⟩
    · rintro e w' ⟨r', ⟨L', q, rfl⟩, z⟩
      rw [three_1] at z
      exact ⟨L', q, z⟩
  clear P4 P5 b5 k5 HD
  go_wp2_with fail
  refine Calls.mono HC.out ?_; rintro e w6 ⟨L', rfl, h6⟩
  have HH : Hid (Hs w w6 (three (busR L x17) (docR L' x17) (tlR V K M 8 0))) := ⟨by obtain ⟨S, a, b⟩ := h6.ex; exact ⟨S, a, fun k g => Nat.le_trans k0.size (b k g)⟩, k0.trans h6.kp⟩
  have pX : Rm.PAt w6 X cs := rX0.kp (noRm h6.kp) id
  have HLd : Hid (∀ W, Kp noB w6 W → (loadCellsFrom ⟨X, 0, none⟩ 0 nn #[]).run Tryz.prog W = .ok cs W) := fun W k => HV.out.get (pX.kp (noRm k) id)
  obtain ⟨c2, hc2⟩ := built_ref cs HWF.out.s ⟨R0, 0, none⟩ ⟨L'.B, 0, none⟩
  have hc1 := built_env cs HWF.out.s ⟨V, 0, none⟩ ⟨L.B, 0, none⟩
  have HB1 : Hid _ := hc1
  have HB2 : Hid _ := hc2
  have HXe : Hid (X = w.heap.size) := hX
  clear h6 HC rX0 k0 hX pX hc1 hc2
  go_upto_region 7 with fail
  rw [← HXe.out]
  refine OrdFree.region_vals (τ := Nat × Nat) (fun t => [.agg cs, .pointer (some ⟨V, 0, none⟩), .pointer (some ⟨L.B, 0, none⟩), .agg (cs ++ #[.pointer (some ⟨V, 0, none⟩), .pointer (some ⟨L.B, 0, none⟩)]), .pointer (some ⟨t.1, 0, none⟩), .agg cs, .pointer (some ⟨R0, 0, none⟩), .pointer (some ⟨L'.B, 0, none⟩), .agg c2, .pointer (some ⟨t.2, 0, none⟩), .pointer (some ⟨t.1, 0, none⟩), .pointer (some ⟨t.2, 0, none⟩)]) (fun t listed W => Kp noB w6 W ∧ (listed.getD 4 false = true → w6.heap.size ≤ t.1 ∧ Rm.EAt W t.1 cs (.pointer (some ⟨V, 0, none⟩)) (.pointer (some ⟨L.B, 0, none⟩)))) (0, 0) (by kernel_rfl) (by kernel_rfl) (by kernel_rfl) (by kernel_rfl) (fun _ => rfl) (fun t => by simp only [OrdFree.puts, Act.put, List.setIfInBounds_toArray, List.set_cons_zero, List.set_cons_succ]; rfl) ⟨(Kp.refl noB w6).drew, fun f => by cases f⟩ ?_ ?_
  · refine ⟨?_, ?_, ?_, ?_, ?_, ?_, ?_, ?_, ?_, ?_, ?_, ?_, trivial⟩
    all_goals (intro t listed W hz hSh hl hI hb K hK hK0; obtain ⟨kk, hrow⟩ := hI; have hld := HLd.out W kk)
    · go_simp
      exact hK0 W ⟨kk, fun h => hrow (by rwa [getD_set_ne false (by decide)] at h)⟩
    · go_simp
      exact hK0 W ⟨kk, fun h => hrow (by rwa [getD_set_ne false (by decide)] at h)⟩
    · go_simp
      exact hK0 W ⟨kk, fun h => hrow (by rwa [getD_set_ne false (by decide)] at h)⟩
    · exact OrdFree.wp_of_run (run_of_build (ps := #[(0, .agg cs), (1, .pointer (some ⟨V, 0, none⟩)), (2, .pointer (some ⟨L.B, 0, none⟩))]) rfl (by kernel_rfl) (run_build W _ _ _ HB1.out)) (hK _ _ ⟨t, rfl, fun _ _ => rfl, ⟨kk, fun h => hrow (by rwa [getD_set_ne false (by decide)] at h)⟩⟩)
    · have n10 := OrdFree.shut_no (j := 10) hSh hl (by kernel_rfl)
      exact OrdFree.wp_of_run (v := .pointer (some ⟨W.heap.size, 0, none⟩)) (w' := W.alloc (.cells (cs ++ #[.pointer (some ⟨V, 0, none⟩), .pointer (some ⟨L.B, 0, none⟩)]) 53)) (by kernel_rfl) (hK _ _ ⟨(W.heap.size, t.2), rfl, OrdFree.vals_two (i := 4) (k := 10) (u := .pointer (some ⟨W.heap.size, 0, none⟩)) (v := .pointer (some ⟨W.heap.size, 0, none⟩)) rfl hl n10, kk.trans (Kp.alloc _ _ _), fun _ => ⟨kk.size, (MapKept.heap_alloc W _).1, HWF.out⟩⟩)
    · go_simp
      exact hK0 W ⟨kk, fun h => hrow (by rwa [getD_set_ne false (by decide)] at h)⟩
    · go_simp
      exact hK0 W ⟨kk, fun h => hrow (by rwa [getD_set_ne false (by decide)] at h)⟩
    · go_simp
      exact hK0 W ⟨kk, fun h => hrow (by rwa [getD_set_ne false (by decide)] at h)⟩
    · exact OrdFree.wp_of_run (run_of_build (ps := #[(0, .agg cs), (1, .pointer (some ⟨R0, 0, none⟩)), (2, .pointer (some ⟨L'.B, 0, none⟩))]) rfl (by kernel_rfl) (run_build W _ _ _ HB2.out)) (hK _ _ ⟨t, rfl, fun _ _ => rfl, ⟨kk, fun h => hrow (by rwa [getD_set_ne false (by decide)] at h)⟩⟩)
    · have n11 := OrdFree.shut_no (j := 11) hSh hl (by kernel_rfl)
      exact OrdFree.wp_of_run (v := .pointer (some ⟨W.heap.size, 0, none⟩)) (w' := W.alloc (.cells c2 126)) (by kernel_rfl) (hK _ _ ⟨(t.1, W.heap.size), rfl, OrdFree.vals_two (i := 9) (k := 11) (u := .pointer (some ⟨W.heap.size, 0, none⟩)) (v := .pointer (some ⟨W.heap.size, 0, none⟩)) rfl hl n11, kk.trans (Kp.alloc _ _ _), fun h => ⟨(hrow (by rwa [getD_set_ne false (by decide)] at h)).1, (hrow (by rwa [getD_set_ne false (by decide)] at h)).2.kp0 (noRm (Kp.alloc _ _ _))⟩⟩)
    · go_simp
      exact hK0 W ⟨kk, fun h => hrow (by rwa [getD_set_ne false (by decide)] at h)⟩
    · go_simp
      exact hK0 W ⟨kk, fun h => hrow (by rwa [getD_set_ne false (by decide)] at h)⟩
  · rename_i Kx hKx
    rintro t listed W hal ⟨kk, hrow⟩
    obtain ⟨q1, q2⟩ := hrow (hal 4 (by exact (by decide : 4 < 12)))
    refine hKx _ _ ?_
    go_wp2
    go_ret2
    refine ⟨t.1, t.2, V, K, L, w6, rfl, ⟨⟨L', ?_⟩, q2, q1, kk⟩⟩
    rw [HM.out]
    exact HH.out
end Go.Proofs.YtiagfmkinefidaaGreat.Bs
