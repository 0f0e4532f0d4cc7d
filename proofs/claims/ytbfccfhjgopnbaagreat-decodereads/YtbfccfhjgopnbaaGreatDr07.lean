/- The document's reader, and the code's (DecMap0, DecIns, DecMap, DecFind). -/
import Derived.Test.YtbfccfhjgopnbaaGreatDr03
import Derived.MapKept
import Derived.Carry
import Derived.BigRegion
import Derived.Orders
set_option linter.unusedSimpArgs false
namespace Go.Proofs.YtbfccfhjgopnbaaGreat
open Go.ChangeShapes Go.WideShapes Go.ChangeAt Go.RowKit
set_option linter.unusedVariables false
theorem keyT : Tryz.prog.underlying 3 = some (.int .i64) := by kernel_rfl
theorem mapT : Tryz.prog.underlying 50 = some (.map 3 42) := by kernel_rfl
theorem zeroT (w : World) : (zeroValue 42).run Tryz.prog w = .ok .nilFunc w := by kernel_rfl
theorem alloc_set (w : World) (o o' : Obj) : ({ w.alloc o with heap := (w.alloc o).heap.setIfInBounds w.heap.size o' } : World) = w.alloc o' := by
  have e : (w.alloc o).heap.setIfInBounds w.heap.size o' = (w.alloc o').heap := by
    show (w.heap.push o).setIfInBounds w.heap.size o' = w.heap.push o'
    apply Array.ext
    · simp
    · intro i h1 h2
      have h3 : i < w.heap.size + 1 := by simpa using h2
      by_cases h : w.heap.size = i
      · subst h; simp
      · have h4 : i < w.heap.size := by omega
        rw [Array.getElem_setIfInBounds_ne (h := h), Array.getElem_push_lt h4, Array.getElem_push_lt h4]
        simp; omega
  rw [e]
  rfl
theorem put_new (w : World) (es : Array MapEntry) (n : Nat) (i : Int) (v : Value) (hf : Instr.findNow (.int .i64) (.int .i64 i) es.toList 0 = some none) :
    (Instr.mapUpdate 50 (.map (some w.heap.size)) (.int .i64 i) v).run Tryz.prog (w.alloc (.map es n)) = .ok () (w.alloc (.map (es.push ⟨.int .i64 i, v, n⟩) (n + 1))) := by
  have hb : (w.alloc (.map es n)).heap[w.heap.size]? = some (.map es n) := (MapKept.heap_alloc w (.map es n)).1
  have hc := MapKept.run_checkKey (P := Tryz.prog) (w := w.alloc (.map es n)) keyT (k := .int .i64 i) (by simp [MapKept.IsKey]) false 9999
  have hd := MapKept.run_findKey (P := Tryz.prog) (w := w.alloc (.map es n)) keyT hf
  have hs := MapKept.run_setObj_map (P := Tryz.prog) (.map (es.push ⟨.int .i64 i, v, n⟩) (n + 1)) hb
  rw [alloc_set] at hs
  simp [Instr.mapUpdate, run_underlying mapT, MapKept.run_getObj_map hb, hc, hd, hs, Result.andThen]
theorem put_old (w : World) (es : Array MapEntry) (n : Nat) (i : Int) (v v0 : Value) (j : Nat) (e : MapEntry) (he : es[j]? = some e) (hk : e.key = .int .i64 i) (hf : Instr.findNow (.int .i64) (.int .i64 i) es.toList 0 = some (some (j, v0))) :
    (Instr.mapUpdate 50 (.map (some w.heap.size)) (.int .i64 i) v).run Tryz.prog (w.alloc (.map es n)) = .ok () (w.alloc (.map (es.modify j fun x => { x with key := .int .i64 i, val := v }) n)) := by
  have hb : (w.alloc (.map es n)).heap[w.heap.size]? = some (.map es n) := (MapKept.heap_alloc w (.map es n)).1
  have hc := MapKept.run_checkKey (P := Tryz.prog) (w := w.alloc (.map es n)) keyT (k := .int .i64 i) (by simp [MapKept.IsKey]) false 9999
  have hd := MapKept.run_findKey (P := Tryz.prog) (w := w.alloc (.map es n)) keyT hf
  have hs := MapKept.run_setObj_map (P := Tryz.prog) (.map (es.modify j fun x => { x with key := .int .i64 i, val := v }) n) hb
  rw [alloc_set] at hs
  have hj : j < es.size := (Array.getElem?_eq_some_iff.1 he).1
  have he' : es[j] = e := (Array.getElem?_eq_some_iff.1 he).2
  have hsb : Instr.sameBits 10000 (.int .i64 i) (.int .i64 i) = true := by simp [Instr.sameBits]
  have hks : (Instr.keyThatStays (.int .i64 i) (.int .i64 i)).run Tryz.prog (w.alloc (.map es n)) = .ok (.int .i64 i) (w.alloc (.map es n)) := by simp [Instr.keyThatStays, hsb]
  simp [Instr.mapUpdate, run_underlying mapT, MapKept.run_getObj_map hb, hc, hd, Result.andThen, hj, he', hk, hks, hs]
def rvP : Option (Nat × Value) → Value
  | some (_, v) => v
  | none => .nilFunc
def rvN : Option Nat → Value
  | some n => .func (.func n) #[] #[]
  | none => .nilFunc
theorem look_any (b : Nat) (w : World) (es : Array MapEntry) (n : Nat) (hb : w.heap[b]? = some (.map es n)) (i : Int) (r : Option (Nat × Value)) (hf : Instr.findNow (.int .i64) (.int .i64 i) es.toList 0 = some r) :
    (Instr.lookup 50 (.map (some b)) (.int .i64 i) false).run Tryz.prog w = .ok (rvP r) w := by
  have hc := MapKept.run_checkKey (P := Tryz.prog) (w := w) keyT (k := .int .i64 i) (by simp [MapKept.IsKey]) es.isEmpty 9999
  have hd := MapKept.run_findKey (P := Tryz.prog) (w := w) keyT hf
  have hz := zeroT w
  cases r with
  | none => simp [Instr.lookup, run_underlying mapT, MapKept.run_getObj_map hb, hc, hd, hz, Result.andThen, rvP]
  | some p => simp [Instr.lookup, run_underlying mapT, MapKept.run_getObj_map hb, hc, hd, Result.andThen, rvP]
/-- Entries, by key and function. -/
def ents : Nat → List (Int × Nat) → List MapEntry
  | _, [] => []
  | i, e :: r => ⟨.int .i64 e.1, .func (.func e.2) #[] #[], i⟩ :: ents (i + 1) r
theorem ents_app : ∀ (L : List (Int × Nat)) (e : Int × Nat) (i : Nat), ents i (L ++ [e]) = ents i L ++ [⟨.int .i64 e.1, .func (.func e.2) #[] #[], i + L.length⟩]
  | [], e, i => rfl
  | x :: r, e, i => by
    simp only [List.cons_append, ents, ents_app r e (i + 1), List.length_cons]
    rw [show i + 1 + r.length = i + (r.length + 1) by omega]
def look (L : List (Int × Nat)) (i : Int) : Option Nat := match L with | [] => none | e :: r => if i = e.1 then some e.2 else look r i
theorem find_none : ∀ (L : List (Int × Nat)) (i : Int) (j c : Nat), (∀ e ∈ L, e.1 ≠ i) → Instr.findNow (.int .i64) (.int .i64 i) (ents j L) c = some none
  | [], _, _, _, _ => rfl
  | e :: r, i, j, c, h => by
    have he : (i == e.1) = false := by simpa using fun x => h e (by simp) x.symm
    simp [ents, Instr.findNow, Instr.sameNow, he, find_none r i (j + 1) (c + 1) (fun x hx => h x (by simp [hx]))]
theorem find_look : ∀ (L : List (Int × Nat)) (i : Int) (j c : Nat), ∃ r, Instr.findNow (.int .i64) (.int .i64 i) (ents j L) c = some r ∧ rvP r = rvN (look L i)
  | [], _, _, _ => ⟨none, rfl, rfl⟩
  | e :: r, i, j, c => by
    by_cases he : i = e.1
    · refine ⟨some (c, .func (.func e.2) #[] #[]), by simp [ents, Instr.findNow, Instr.sameNow, he], by simp [look, he, rvP, rvN]⟩
    · have hb : (i == e.1) = false := by simpa using he
      obtain ⟨x, h1, h2⟩ := find_look r i (j + 1) (c + 1)
      exact ⟨x, by simp [ents, Instr.findNow, Instr.sameNow, hb, h1], by rw [h2]; simp [look, he]⟩
/-- The key's function turned. -/
def upd (L : List (Int × Nat)) (k : Int) (n : Nat) : List (Int × Nat) := match L with | [] => [] | e :: r => if k = e.1 then (k, n) :: r else e :: upd r k n
theorem upd_len : ∀ (L : List (Int × Nat)) (k : Int) (n : Nat), (upd L k n).length = L.length
  | [], _, _ => rfl
  | e :: r, k, n => by
    unfold upd
    split
    · rfl
    · simp [upd_len r k n]
theorem find_upd : ∀ (L : List (Int × Nat)) (k : Int) (n : Nat) (j c : Nat), (∃ e ∈ L, e.1 = k) → ∃ (i : Nat) (v : Value) (e : MapEntry), Instr.findNow (.int .i64) (.int .i64 k) (ents j L) c = some (some (c + i, v)) ∧ (ents j L)[i]? = some e ∧ e.key = .int .i64 k ∧ (ents j L).modify i (fun x => { x with key := .int .i64 k, val := .func (.func n) #[] #[] }) = ents j (upd L k n)
  | [], k, n, j, c, h => by obtain ⟨e, he, _⟩ := h; cases he
  | x :: r, k, n, j, c, h => by
    by_cases hx : k = x.1
    · refine ⟨0, .func (.func x.2) #[] #[], _, by simp [ents, Instr.findNow, Instr.sameNow, hx], rfl, by simp [hx], ?_⟩
      unfold upd
      rw [if_pos hx]
      simp [ents, hx]
    · have hb : (k == x.1) = false := by simpa using hx
      obtain ⟨i, v, e, h1, h2, h3, h4⟩ := find_upd r k n (j + 1) (c + 1) (by
        obtain ⟨e, he, hk⟩ := h
        rcases List.mem_cons.1 he with rfl | he
        · exact absurd hk.symm hx
        · exact ⟨e, he, hk⟩)
      refine ⟨i + 1, v, e, ?_, by simpa [ents] using h2, h3, ?_⟩
      · simp [ents, Instr.findNow, Instr.sameNow, hb, h1]
        omega
      · unfold upd
        rw [if_neg hx]
        simp [ents, h4]
theorem look_upd : ∀ (L : List (Int × Nat)) (k : Int) (n : Nat) (i : Int), (∃ e ∈ L, e.1 = k) → look (upd L k n) i = if i = k then some n else look L i
  | [], k, n, i, h => by obtain ⟨e, he, _⟩ := h; cases he
  | x :: r, k, n, i, h => by
    by_cases hx : k = x.1
    · unfold upd
      rw [if_pos hx]
      by_cases hi : i = k
      · simp [look, hi]
      · have : ¬ i = x.1 := by rw [← hx]; exact hi
        simp [look, hi, this]
    · unfold upd
      rw [if_neg hx]
      have h' : ∃ e ∈ r, e.1 = k := by
        obtain ⟨e, he, hk⟩ := h
        rcases List.mem_cons.1 he with rfl | he
        · exact absurd hk.symm hx
        · exact ⟨e, he, hk⟩
      by_cases hi : i = x.1
      · have : ¬ i = k := fun e => hx (by rw [← e]; exact hi)
        simp [look, hi]
        intro e
        exact absurd e.symm hx
      · simp [look, hi, look_upd r k n i h']
def mp (w : World) (L : List (Int × Nat)) : World := w.alloc (.map (ents 0 L).toArray L.length)
/-- The same behind a draw. -/
def md (w : World) (L : List (Int × Nat)) : World := (mp w L).drew
theorem put_mp (w : World) (L : List (Int × Nat)) (k : Int) (n : Nat) (h : ∀ e ∈ L, e.1 ≠ k) :
    (Instr.mapUpdate 50 (.map (some w.heap.size)) (.int .i64 k) (.func (.func n) #[] #[])).run Tryz.prog (mp w L) = .ok () (mp w (L ++ [(k, n)])) := by
  have e := put_new w (ents 0 L).toArray L.length k (.func (.func n) #[] #[]) (by simpa using find_none L k 0 0 h)
  unfold mp
  rw [e, ents_app]
  simp
theorem upd_mp (w : World) (L : List (Int × Nat)) (k : Int) (n : Nat) (h : ∃ e ∈ L, e.1 = k) :
    (Instr.mapUpdate 50 (.map (some w.heap.size)) (.int .i64 k) (.func (.func n) #[] #[])).run Tryz.prog (mp w L) = .ok () (mp w (upd L k n)) := by
  obtain ⟨i, v, e, h1, h2, h3, h4⟩ := find_upd L k n 0 0 h
  have r := put_old w (ents 0 L).toArray L.length k (.func (.func n) #[] #[]) v i e (by simpa using h2) h3 (by simpa using h1)
  unfold mp
  rw [r, upd_len, ← h4]
  simp
/-- Lists with the same entries, no key twice, are looked up alike. -/
theorem look_mem : ∀ (L : List (Int × Nat)) (i : Int) (n : Nat), (L.map Prod.fst).Nodup → (look L i = some n ↔ (i, n) ∈ L)
  | [], i, n, _ => by simp [look]
  | x :: r, i, n, h => by
    have hr : (r.map Prod.fst).Nodup := (List.nodup_cons.1 (by simpa using h)).2
    have hx : x.1 ∉ r.map Prod.fst := (List.nodup_cons.1 (by simpa using h)).1
    by_cases hi : i = x.1
    · simp only [look, if_pos hi]
      constructor
      · intro e
        injection e with e
        rw [hi, ← e]
        simp
      · intro e
        rcases List.mem_cons.1 e with e | e
        · rw [← e]
        · exact absurd (List.mem_map.2 ⟨(i, n), e, hi⟩) hx
    · simp only [look, if_neg hi]
      rw [look_mem r i n hr]
      simp
      intro e
      exact absurd (by rw [← e]) hi
theorem look_same {L L' : List (Int × Nat)} (h : ∀ e, e ∈ L ↔ e ∈ L') (n1 : (L.map Prod.fst).Nodup) (n2 : (L'.map Prod.fst).Nodup) (i : Int) : look L i = look L' i := by
  cases h1 : look L i with
  | some n => exact ((look_mem L' i n n2).2 ((h _).1 ((look_mem L i n n1).1 h1))).symm
  | none =>
    cases h2 : look L' i with
    | none => rfl
    | some n => rw [(look_mem L i n n1).2 ((h _).2 ((look_mem L' i n n2).1 h2))] at h1; cases h1
theorem nodup_take {L : List (Int × Nat)} (h : (L.map Prod.fst).Nodup) (j : Nat) (hj : j < L.length) : ∀ e ∈ L.take j, e.1 ≠ (L[j]).1 := by
  intro e he
  obtain ⟨i, hi, rfl⟩ := List.getElem_of_mem he
  rw [List.getElem_take]
  have hi' : i < j := by simp at hi; omega
  have := List.pairwise_iff_getElem.1 h i j (by simp; omega) (by simpa using hj) hi'
  simpa using this
theorem put_take (w : World) (L : List (Int × Nat)) (h : (L.map Prod.fst).Nodup) (j : Nat) (hj : j < L.length) :
    (Instr.mapUpdate 50 (.map (some w.heap.size)) (.int .i64 (L[j]).1) (.func (.func (L[j]).2) #[] #[])).run Tryz.prog (mp w (L.take j)) = .ok () (mp w (L.take (j + 1))) := by
  have e := put_mp w (L.take j) (L[j]).1 (L[j]).2 (nodup_take h j hj)
  rw [show L.take (j + 1) = L.take j ++ [L[j]] by rw [List.take_append_getElem]]
  exact e
theorem look_mp (w : World) (L : List (Int × Nat)) (i : Int) :
    (Instr.lookup 50 (.map (some w.heap.size)) (.int .i64 i) false).run Tryz.prog (mp w L) = .ok (rvN (look L i)) (mp w L) := by
  obtain ⟨r, h1, h2⟩ := find_look L i 0 0
  have e := look_any w.heap.size (mp w L) (ents 0 L).toArray L.length (MapKept.heap_alloc w _).1 i r (by simpa using h1)
  rw [e, h2]
theorem look_md (w : World) (L : List (Int × Nat)) (i : Int) :
    (Instr.lookup 50 (.map (some w.heap.size)) (.int .i64 i) false).run Tryz.prog (md w L) = .ok (rvN (look L i)) (md w L) := look_mp w.drew L i
end Go.Proofs.YtbfccfhjgopnbaaGreat
namespace Go.Proofs.YtbfccfhjgopnbaaGreat
open Go.ChangeShapes Go.WideShapes Go.ChangeAt Go.RowKit
set_option linter.unusedVariables false
theorem then_act {K : Act → World → Prop} {Q : Exit → Act → World → Prop} {a b : Act} {w : World} (e : b = a) (h : Exit.then K Q .normal a w) : Exit.then K Q .normal b w := e ▸ h
/-- Listed are those of F, but for J. -/
def lst (F : Array Bool) (J : List Nat) : Array Bool := (List.range F.size).map (fun i => F.getD i false && !J.contains i) |>.toArray
theorem lst_size (F : Array Bool) (J : List Nat) : (lst F J).size = F.size := by simp [lst]
theorem lst_get (F : Array Bool) (J : List Nat) (i : Nat) (d : Bool) (hi : i < F.size) : (lst F J).getD i d = (F.getD i false && !J.contains i) := by
  unfold lst
  simp [Array.getD, hi]
theorem lst_set (F : Array Bool) (J : List Nat) (i : Nat) (hi : i < F.size) (hF : F.getD i false = true) : (lst F J).setIfInBounds i true = lst F (J.filter (· ≠ i)) := by
  apply Array.ext
  · simp [lst]
  · intro j h1 h2
    have hj : j < F.size := by simpa [lst] using h2
    have e1 : ((lst F J).setIfInBounds i true)[j] = if i = j then true else (lst F J)[j]'(by rw [lst_size]; exact hj) := by
      rw [Array.getElem_setIfInBounds]
    rw [e1]
    have g : ∀ K : List Nat, ∀ h : j < (lst F K).size, (lst F K)[j] = (F.getD j false && !K.contains j) := fun K h => by simp [lst]
    rw [g, g]
    by_cases e : i = j
    · subst e
      simp [hF]
    · rw [if_neg e]
      have : (J.filter (· ≠ i)).contains j = J.contains j := by
        have e' : ¬ j = i := fun x => e x.symm
        simp [List.contains_eq_mem, List.mem_filter, e']
      rw [this]
theorem lst_nil (F : Array Bool) : lst F [] = F := by
  apply Array.ext
  · simp [lst]
  · intro j h1 h2
    simp [lst, Array.getElem?_eq_getElem h2]
section
variable {P : Program} {md' : Region.Mode} {ops : Array Oper} {Q : Exit → Act → World → Prop}
theorem mem_ready {listed : Array Bool} {i : Nat} : i ∈ Region.ready md' ops listed ↔ i < ops.size ∧ listed.getD i true = false ∧ ((ops[i]?).map (·.after.all fun e => !Region.binds md' e || listed.getD e.on false)).getD false = true := by
  simp [Region.ready]
theorem ins_phase (a : Act) (w0 : World) (ent : Nat → Int × Nat) (idx : List Nat) (F : Array Bool) (hsz : F.size = ops.size)
    (hkeys : ∀ i ∈ idx, ∀ j ∈ idx, (ent i).1 = (ent j).1 → i = j)
    (hF : ∀ i ∈ idx, F.getD i false = true)
    (hdep : ∀ i ∈ idx, i < ops.size ∧ ∃ o, ops[i]? = some o ∧ ∀ e ∈ o.after, Region.binds md' e = true → e.on < ops.size ∧ F.getD e.on false = true ∧ e.on ∉ idx)
    (hfin : ∀ i, i < ops.size → F.getD i false = false → ∃ o, ops[i]? = some o ∧ ((∀ j ∈ idx, ∃ e ∈ o.after, Region.binds md' e = true ∧ e.on = j) ∨ ∃ e ∈ o.after, Region.binds md' e = true ∧ e.on < ops.size ∧ F.getD e.on false = false))
    (hstep : ∀ i ∈ idx, ∀ (L : List (Int × Nat)) (K : Act → World → Prop), (∀ e ∈ L, e.1 ≠ (ent i).1) → K a (md w0 (L ++ [ent i])) → wpOp P ops Q i K a (md w0 L))
    (fuel : Nat) (hend : ∀ L : List (Int × Nat), (∀ e, e ∈ L ↔ ∃ i ∈ idx, e = ent i) → (L.map Prod.fst).Nodup → wpAny P md' ops Q fuel F a (md w0 L)) :
    ∀ (n : Nat) (J : List Nat) (L : List (Int × Nat)), J.length = n → J.Nodup → (∀ i ∈ J, i ∈ idx) → (∀ e, e ∈ L ↔ ∃ i ∈ idx, i ∉ J ∧ e = ent i) → (L.map Prod.fst).Nodup → wpAny P md' ops Q (fuel + n) (lst F J) a (md w0 L) := by
  intro n
  induction n with
  | zero =>
    intro J L hn hJ hJi hL hLn
    have : J = [] := List.eq_nil_of_length_eq_zero hn
    subst this
    rw [lst_nil]
    exact hend L (fun e => by rw [hL]; simp) hLn
  | succ n ih =>
    intro J L hn hJ hJi hL hLn
    have hready : ∀ i, i ∈ J → i ∈ Region.ready md' ops (lst F J) := fun i hi => by
      obtain ⟨h1, o, ho, hd⟩ := hdep i (hJi i hi)
      refine mem_ready.2 ⟨h1, ?_, ?_⟩
      · rw [lst_get _ _ _ _ (by omega)]
        simp [List.contains_eq_mem, hi]
      · rw [ho]
        simp only [Option.map_some, Option.getD_some, Array.all_eq_true_iff_forall_mem]
        intro e he
        cases hb : Region.binds md' e with
        | false => simp
        | true =>
          obtain ⟨g1, g2, g3⟩ := hd e he hb
          rw [lst_get _ _ _ _ (by omega), g2]
          have : e.on ∉ J := fun x => g3 (hJi _ x)
          simp [List.contains_eq_mem, this]
    have hJne : J ≠ [] := fun e => by rw [e] at hn; simp at hn
    refine wpAny_all rfl ?_ ?_
    · obtain ⟨j, hj⟩ := List.exists_mem_of_ne_nil J hJne
      exact List.ne_nil_of_mem (hready j hj)
    · intro i hi
      obtain ⟨h1, h2, h3⟩ := mem_ready.1 hi
      rw [lst_get _ _ _ _ (by omega)] at h2
      have hiJ : i ∈ J := by
        by_cases hx : i ∈ J
        · exact hx
        · exfalso
          have hFi : F.getD i false = false := by simpa [List.contains_eq_mem, hx] using h2
          obtain ⟨o, ho, hd⟩ := hfin i h1 hFi
          rw [ho] at h3
          simp only [Option.map_some, Option.getD_some, Array.all_eq_true_iff_forall_mem] at h3
          rcases hd with hd | ⟨e, he, hb, hs, hne⟩
          · obtain ⟨j, hj⟩ := List.exists_mem_of_ne_nil J hJne
            obtain ⟨e, he, hb, hon⟩ := hd j (hJi j hj)
            have := h3 e he
            rw [hb, hon, lst_get _ _ _ _ (by have := (hdep j (hJi j hj)).1; omega)] at this
            simp [List.contains_eq_mem, hj] at this
          · have := h3 e he
            rw [hb, lst_get _ _ _ _ (by omega), hne] at this
            simp at this
      refine hstep i (hJi i hiJ) L _ ?_ ?_
      · intro e he
        obtain ⟨j, hj, hjn, rfl⟩ := (hL e).1 he
        intro hk
        exact hjn (by rw [hkeys j hj i (hJi i hiJ) hk]; exact hiJ)
      · rw [lst_set F J i (by omega) (hF i (hJi i hiJ))]
        have hlen : (J.filter (· ≠ i)).length = n := by
          have := List.length_erase_of_mem hiJ
          rw [hJ.erase_eq_filter] at this
          have e2 : J.filter (· != i) = J.filter (· ≠ i) := by congr 1; funext x; by_cases hx : x = i <;> simp [hx]
          rw [e2] at this
          omega
        refine ih _ _ hlen (hJ.filter _) (fun j hj => hJi j (List.mem_filter.1 hj).1) (fun e => ?_) ?_
        · rw [List.mem_append, hL]
          constructor
          · rintro (⟨j, hj, hjn, rfl⟩ | he)
            · exact ⟨j, hj, fun x => hjn (List.mem_filter.1 x).1, rfl⟩
            · exact ⟨i, hJi i hiJ, fun x => by simpa using (List.mem_filter.1 x).2, by simpa using he⟩
          · rintro ⟨j, hj, hjn, rfl⟩
            by_cases hji : j = i
            · right; rw [hji]; simp
            · left
              exact ⟨j, hj, fun x => hjn (List.mem_filter.2 ⟨x, by simpa using hji⟩), rfl⟩
        · rw [List.map_append, List.nodup_append]
          refine ⟨hLn, by simp, ?_⟩
          intro x hx y hy
          simp at hy
          subst hy
          obtain ⟨e, he, rfl⟩ := List.mem_map.1 hx
          obtain ⟨j, hj, hjn, rfl⟩ := (hL e).1 he
          intro hk
          exact hjn (by rw [hkeys j hj i (hJi i hiJ) hk]; exact hiJ)
def depB (ops : Array Oper) (md' : Region.Mode) (F : Array Bool) (idx : List Nat) : Bool :=
  idx.all fun i => decide (i < ops.size) && F.getD i false && match ops[i]? with
    | some o => o.after.all fun e => !Region.binds md' e || (decide (e.on < ops.size) && F.getD e.on false && !idx.contains e.on)
    | none => false
def finB (ops : Array Oper) (md' : Region.Mode) (F : Array Bool) (idx : List Nat) : Bool :=
  (List.range ops.size).all fun i => F.getD i false || match ops[i]? with
    | some o => (idx.all fun j => o.after.any fun e => Region.binds md' e && e.on == j) || o.after.any fun e => Region.binds md' e && decide (e.on < ops.size) && !F.getD e.on false
    | none => false
theorem ins_all (a : Act) (w0 : World) (ent : Nat → Int × Nat) (idx : List Nat) (F listed : Array Bool) (hl : listed = lst F idx) (hsz : F.size = ops.size) (hnd : idx.Nodup)
    (hkeys : ∀ i ∈ idx, ∀ j ∈ idx, (ent i).1 = (ent j).1 → i = j) (hdep : depB ops md' F idx = true) (hfin : finB ops md' F idx = true)
    (hstep : ∀ i ∈ idx, ∀ (L : List (Int × Nat)) (K : Act → World → Prop), (∀ e ∈ L, e.1 ≠ (ent i).1) → K a (md w0 (L ++ [ent i])) → wpOp P ops Q i K a (md w0 L))
    (fuel n : Nat) (hn : n = fuel + idx.length) (hend : ∀ L : List (Int × Nat), (∀ e, e ∈ L ↔ e ∈ idx.map ent) → (L.map Prod.fst).Nodup → wpAny P md' ops Q fuel F a (md w0 L)) : wpAny P md' ops Q n listed a (md w0 []) := by
  rw [hl, hn]
  unfold depB at hdep
  rw [List.all_eq_true] at hdep
  unfold finB at hfin
  rw [List.all_eq_true] at hfin
  refine ins_phase (md' := md') a w0 ent idx F hsz hkeys ?_ ?_ ?_ hstep fuel ?_ idx.length idx [] rfl hnd (fun _ h => h) (fun e => by simp; intro i hi hn; exact absurd hi hn) (by simp)
  · intro i hi
    have := hdep i hi
    simp at this
    simpa using this.1.2
  · intro i hi
    have := hdep i hi
    simp only [Bool.and_eq_true, decide_eq_true_eq] at this
    obtain ⟨⟨h1, h2⟩, h3⟩ := this
    refine ⟨h1, ?_⟩
    cases ho : ops[i]? with
    | none => rw [ho] at h3; cases h3
    | some o =>
      rw [ho] at h3
      refine ⟨o, rfl, fun e he hb => ?_⟩
      simp only [Array.all_eq_true_iff_forall_mem] at h3
      have := h3 e he
      rw [hb] at this
      simp only [Bool.not_true, Bool.false_or, Bool.and_eq_true, decide_eq_true_eq] at this
      exact ⟨this.1.1, this.1.2, by simpa [List.contains_eq_mem] using this.2⟩
  · intro i hi hFi
    have := hfin i (List.mem_range.2 hi)
    rw [hFi, Bool.false_or] at this
    cases ho : ops[i]? with
    | none => rw [ho] at this; cases this
    | some o =>
      rw [ho] at this
      refine ⟨o, rfl, ?_⟩
      simp only [Bool.or_eq_true] at this
      rcases this with h | h
      · left
        intro j hj
        rw [List.all_eq_true] at h
        have := h j hj
        rw [Array.any_eq_true] at this
        obtain ⟨k, hk, hb⟩ := this
        simp at hb
        exact ⟨_, Array.getElem_mem hk, hb.1, hb.2⟩
      · right
        rw [Array.any_eq_true] at h
        obtain ⟨k, hk, hb⟩ := h
        simp only [Bool.and_eq_true, decide_eq_true_eq, Bool.not_eq_true'] at hb
        exact ⟨_, Array.getElem_mem hk, hb.1.1, hb.1.2, hb.2⟩
  · intro L hL hLn
    refine hend L (fun e => ?_) hLn
    rw [hL]
    simp [List.mem_map, eq_comm]
/-- One store as one step of the region. -/
theorem step_ins {i : Nat} {a : Act} {w0 : World} {o : Oper} {L : List (Int × Nat)} {K : Act → World → Prop} {m k v : Operand} {key : Int} {n : Nat} (ho : ops[i]? = some o) (hg : o.guard = none) (hd : o.dst = none) (hop : o.op = Op.insert 50 m k v)
    (hm : a.eval m = .map (some w0.heap.size)) (hk : a.eval k = .int .i64 key) (hv : a.eval v = .func (.func n) #[] #[]) (hL : ∀ e ∈ L, e.1 ≠ key) (hK : K a (md w0 (L ++ [(key, n)]))) : wpOp Tryz.prog ops Q i K a (md w0 L) := by
  have hrun := put_mp w0.drew L key n hL
  have hrun' : (Instr.mapUpdate 50 (.map (some w0.heap.size)) (.int .i64 key) (.func (.func n) #[] #[])).run Tryz.prog (md w0 L) = .ok () (md w0 (L ++ [(key, n)])) := hrun
  refine wpOp_step ho fun K' hK' => ?_
  have hw : Region.wanted o (yielded ops a.tmps) = true := by simp [Region.wanted, hg]
  rw [if_pos hw]
  unfold Oper.wp
  simp [execOp, hop, hm, hk, hv, hrun', Result.andThen, Oper.upon]
  have hp : a.put o.dst undef = a := by rw [hd]; rfl
  rw [hp]
  exact hK' _ _ hK
theorem step_make {i : Nat} {a : Act} {w : World} {o : Oper} {K : Act → World → Prop} {M : Nat} (ho : ops[i]? = some o) (hg : o.guard = none) (hd : o.dst = some M) (hop : o.op = Op.makeMap 50 none)
    (hK : K (a.put (some M) (.map (some w.heap.size))) (md w [])) : wpOp Tryz.prog ops Q i K a w.drew := by
  have hmm : (Instr.makeMap 50 none).run Tryz.prog w.drew = .ok (.map (some w.heap.size)) (md w []) := run_makeMap (P := Tryz.prog) _ w.drew
  refine wpOp_step ho fun K' hK' => ?_
  have hw : Region.wanted o (yielded ops a.tmps) = true := by simp [Region.wanted, hg]
  rw [if_pos hw]
  unfold Oper.wp
  simp [execOp, hop, hmm, Result.andThen, Oper.upon]
  rw [hd]
  exact hK' _ _ hK
theorem step_put {i : Nat} {a : Act} {w : World} {o : Oper} {K : Act → World → Prop} {x : Operand} (ho : ops[i]? = some o) (hg : o.guard = none) (hop : o.op = Op.assign x)
    (hK : K (a.put o.dst (a.eval x)) w) : wpOp Tryz.prog ops Q i K a w := by
  refine wpOp_step ho fun K' hK' => ?_
  have hw : Region.wanted o (yielded ops a.tmps) = true := by simp [Region.wanted, hg]
  rw [if_pos hw]
  unfold Oper.wp
  simp [execOp, hop, Oper.upon]
  exact hK' _ _ hK
end
end Go.Proofs.YtbfccfhjgopnbaaGreat
namespace Go.Proofs.YtbfccfhjgopnbaaGreat
open Go.ChangeShapes Go.WideShapes Go.ChangeAt Go.RowKit
set_option linter.unusedVariables false
def L00 (a : Int) : List (Int × Nat) := [(a, 32), (a + 1, 37), (a + 2, 38), (a + 3, 39), (a + 4, 40), (a + 5, 43), (6, 44), (14, 46), (22, 47), (30, 48), (7, 49), (23, 50), (31, 51), (39, 52), (47, 53), (55, 54), (63, 55)]
theorem nd00 (a : Int) (h : a = 0 ∨ a = 8 ∨ a = 16 ∨ a = 24 ∨ a = 32 ∨ a = 40 ∨ a = 48 ∨ a = 56) : ((L00 a).map Prod.fst).Nodup := by
  rcases h with rfl | rfl | rfl | rfl | rfl | rfl | rfl | rfl <;> decide
def ix00 : List Nat := [3, 6, 9, 12, 15, 18, 19, 20, 21, 22, 23, 24, 25, 26, 27, 28, 29]
def en00 (a : Int) (i : Nat) : Int × Nat := ([(0, 0), (0, 0), (0, 0), (a, 32), (0, 0), (0, 0), (a + 1, 37), (0, 0), (0, 0), (a + 2, 38), (0, 0), (0, 0), (a + 3, 39), (0, 0), (0, 0), (a + 4, 40), (0, 0), (0, 0), (a + 5, 43), (6, 44), (14, 46), (22, 47), (30, 48), (7, 49), (23, 50), (31, 51), (39, 52), (47, 53), (55, 54), (63, 55), (0, 0), (0, 0)] : List (Int × Nat)).getD i (0, 0)
def ff00 : Array Bool := #[true, true, true, true, true, true, true, true, true, true, true, true, true, true, true, true, true, true, true, true, true, true, true, true, true, true, true, true, true, true, false, false]
theorem ky00 (a : Int) (h : a = 0 ∨ a = 8 ∨ a = 16 ∨ a = 24 ∨ a = 32 ∨ a = 40 ∨ a = 48 ∨ a = 56) : ∀ i ∈ ix00, ∀ j ∈ ix00, (en00 a i).1 = (en00 a j).1 → i = j := by
  rcases h with rfl | rfl | rfl | rfl | rfl | rfl | rfl | rfl <;> decide
set_option maxHeartbeats 2000000 in
theorem from00_ok (w : World) (op : Int) (a : Int) (h : a = 0 ∨ a = 8 ∨ a = 16 ∨ a = 24 ∨ a = 32 ∨ a = 40 ∨ a = 48 ∨ a = 56) (ha : bits .andNot .i64 op 7 = a) (a0 : 0 ≤ a) (a1 : a < 64) :
    Calls Tryz.prog 14 #[.int .i64 op] w fun e w' => e = .returned (.map (some w.heap.size)) ∧ ∃ L, (∀ e, e ∈ L ↔ e ∈ L00 a) ∧ (L.map Prod.fst).Nodup ∧ w' = md w L := by
  have hmm := @run_makeMap Tryz.prog
  have HK : Hid _ := ky00 a h
  clear h
  go_enter Tryz.func14, Tryz.ntmps14
  go_wp2
  refine wp_region_any (by kernel_rfl) ?_
  refine wpAny_take (i := 1) (v := .int .i64 (a)) rfl (by kernel_rfl) (by kernel_rfl) (by kernel_rfl) (fun _ _ _ h => h) (Or.inl ⟨by rfl, by intro w; go_simp⟩) ?_
  refine wpAny_take (i := 2) (v := .int .i64 (a)) rfl (by kernel_rfl) (by kernel_rfl) (by kernel_rfl) (fun _ _ _ h => h) (Or.inl ⟨by rfl, by intro w; go_simp; exact IntWalk.i64_in _ ⟨by omega, by omega⟩⟩) ?_
  refine wpAny_take (i := 4) (v := .int .i64 (a)) rfl (by kernel_rfl) (by kernel_rfl) (by kernel_rfl) (fun _ _ _ h => h) (Or.inl ⟨by rfl, by intro w; go_simp⟩) ?_
  refine wpAny_take (i := 5) (v := .int .i64 (a + 1)) rfl (by kernel_rfl) (by kernel_rfl) (by kernel_rfl) (fun _ _ _ h => h) (Or.inl ⟨by rfl, by intro w; go_simp; exact IntWalk.i64_in _ ⟨by omega, by omega⟩⟩) ?_
  refine wpAny_take (i := 7) (v := .int .i64 (a)) rfl (by kernel_rfl) (by kernel_rfl) (by kernel_rfl) (fun _ _ _ h => h) (Or.inl ⟨by rfl, by intro w; go_simp⟩) ?_
  refine wpAny_take (i := 8) (v := .int .i64 (a + 2)) rfl (by kernel_rfl) (by kernel_rfl) (by kernel_rfl) (fun _ _ _ h => h) (Or.inl ⟨by rfl, by intro w; go_simp; exact IntWalk.i64_in _ ⟨by omega, by omega⟩⟩) ?_
  refine wpAny_take (i := 10) (v := .int .i64 (a)) rfl (by kernel_rfl) (by kernel_rfl) (by kernel_rfl) (fun _ _ _ h => h) (Or.inl ⟨by rfl, by intro w; go_simp⟩) ?_
  refine wpAny_take (i := 11) (v := .int .i64 (a + 3)) rfl (by kernel_rfl) (by kernel_rfl) (by kernel_rfl) (fun _ _ _ h => h) (Or.inl ⟨by rfl, by intro w; go_simp; exact IntWalk.i64_in _ ⟨by omega, by omega⟩⟩) ?_
  refine wpAny_take (i := 13) (v := .int .i64 (a)) rfl (by kernel_rfl) (by kernel_rfl) (by kernel_rfl) (fun _ _ _ h => h) (Or.inl ⟨by rfl, by intro w; go_simp⟩) ?_
  refine wpAny_take (i := 14) (v := .int .i64 (a + 4)) rfl (by kernel_rfl) (by kernel_rfl) (by kernel_rfl) (fun _ _ _ h => h) (Or.inl ⟨by rfl, by intro w; go_simp; exact IntWalk.i64_in _ ⟨by omega, by omega⟩⟩) ?_
  refine wpAny_take (i := 16) (v := .int .i64 (a)) rfl (by kernel_rfl) (by kernel_rfl) (by kernel_rfl) (fun _ _ _ h => h) (Or.inl ⟨by rfl, by intro w; go_simp⟩) ?_
  refine wpAny_take (i := 17) (v := .int .i64 (a + 5)) rfl (by kernel_rfl) (by kernel_rfl) (by kernel_rfl) (fun _ _ _ h => h) (Or.inl ⟨by rfl, by intro w; go_simp; exact IntWalk.i64_in _ ⟨by omega, by omega⟩⟩) ?_
  refine wpAny_all (rs := [0]) (by kernel_rfl) (by simp) ?_
  intro i hi
  rw [List.mem_singleton] at hi
  subst hi
  refine step_make rfl rfl rfl rfl ?_
  refine ins_all (P := Tryz.prog) (md' := .any) _ w (en00 a) ix00 ff00 _ (by kernel_rfl) rfl (by decide) HK.out (by kernel_rfl) (by kernel_rfl) ?_ 2 _ rfl ?_
  · intro i hi L K hL hK
    simp [ix00] at hi
    rcases hi with rfl | rfl | rfl | rfl | rfl | rfl | rfl | rfl | rfl | rfl | rfl | rfl | rfl | rfl | rfl | rfl | rfl
    all_goals exact step_ins rfl rfl rfl rfl (by kernel_rfl) (by kernel_rfl) (by kernel_rfl) hL hK
  · intro L hL hLn
    refine wpAny_take (i := 30) (v := .map (some w.heap.size)) rfl (by kernel_rfl) (by kernel_rfl) (by kernel_rfl) (fun _ _ _ h => h) (Or.inl ⟨by rfl, by intro w; go_simp⟩) ?_
    refine wpAny_all (rs := [31]) (by kernel_rfl) (by simp) ?_
    intro i hi
    rw [List.mem_singleton] at hi
    subst hi
    refine step_put rfl rfl rfl ?_
    refine wpAny_done (by kernel_rfl) ?_ _
    have HL : Hid (∀ e, e ∈ L ↔ e ∈ L00 a) := hL
    have HN : Hid _ := hLn
    clear hL hLn
    refine then_act (a := { tmps := #[.int .i64 op, undef, .map (some w.heap.size), .int .i64 a, .int .i64 op, .int .i64 a, .map (some w.heap.size), .int .i64 (a), .int .i64 (a), .int .i64 (a), .int .i64 (a + 1), .int .i64 (a), .int .i64 (a + 2), .int .i64 (a), .int .i64 (a + 3), .int .i64 (a), .int .i64 (a + 4), .int .i64 (a), .int .i64 (a + 5), .map (some w.heap.size)], defers := [] }) (by kernel_rfl) ?_
    go_wp2
    go_ret
    exact ⟨rfl, L, HL.out, HN.out, rfl⟩
def L40 (r : Int) (c : Int) : List (Int × Nat) := [(64 + r, 56), (72 + r, 58), (80 + r, 59), (88 + r, 60), (96, 61), (97, 62), (104, 63), (105, 64), (106, 65), (107, 67), (112 + c, 68)]
theorem nd40 (r : Int) (c : Int) (h : r = 0 ∧ c = 0 ∨ r = 1 ∧ c = 1 ∨ r = 2 ∧ c = 2 ∨ r = 3 ∧ c = 3 ∨ r = 4 ∧ c = 4 ∨ r = 5 ∧ c = 5 ∨ r = 6 ∧ c = 6 ∨ r = 7 ∧ c = 7 ∨ r = 0 ∧ c = 8 ∨ r = 1 ∧ c = 9 ∨ r = 2 ∧ c = 10 ∨ r = 3 ∧ c = 11 ∨ r = 4 ∧ c = 12 ∨ r = 5 ∧ c = 13 ∨ r = 6 ∧ c = 14 ∨ r = 7 ∧ c = 15) : ((L40 r c).map Prod.fst).Nodup := by
  rcases h with ⟨rfl, rfl⟩ | ⟨rfl, rfl⟩ | ⟨rfl, rfl⟩ | ⟨rfl, rfl⟩ | ⟨rfl, rfl⟩ | ⟨rfl, rfl⟩ | ⟨rfl, rfl⟩ | ⟨rfl, rfl⟩ | ⟨rfl, rfl⟩ | ⟨rfl, rfl⟩ | ⟨rfl, rfl⟩ | ⟨rfl, rfl⟩ | ⟨rfl, rfl⟩ | ⟨rfl, rfl⟩ | ⟨rfl, rfl⟩ | ⟨rfl, rfl⟩ <;> decide
def ix40 : List Nat := [3, 6, 9, 12, 13, 14, 15, 16, 17, 18, 21]
def en40 (r : Int) (c : Int) (i : Nat) : Int × Nat := ([(0, 0), (0, 0), (0, 0), (64 + r, 56), (0, 0), (0, 0), (72 + r, 58), (0, 0), (0, 0), (80 + r, 59), (0, 0), (0, 0), (88 + r, 60), (96, 61), (97, 62), (104, 63), (105, 64), (106, 65), (107, 67), (0, 0), (0, 0), (112 + c, 68), (0, 0), (0, 0)] : List (Int × Nat)).getD i (0, 0)
def ff40 : Array Bool := #[true, true, true, true, true, true, true, true, true, true, true, true, true, true, true, true, true, true, true, true, true, true, false, false]
theorem ky40 (r : Int) (c : Int) (h : r = 0 ∧ c = 0 ∨ r = 1 ∧ c = 1 ∨ r = 2 ∧ c = 2 ∨ r = 3 ∧ c = 3 ∨ r = 4 ∧ c = 4 ∨ r = 5 ∧ c = 5 ∨ r = 6 ∧ c = 6 ∨ r = 7 ∧ c = 7 ∨ r = 0 ∧ c = 8 ∨ r = 1 ∧ c = 9 ∨ r = 2 ∧ c = 10 ∨ r = 3 ∧ c = 11 ∨ r = 4 ∧ c = 12 ∨ r = 5 ∧ c = 13 ∨ r = 6 ∧ c = 14 ∨ r = 7 ∧ c = 15) : ∀ i ∈ ix40, ∀ j ∈ ix40, (en40 r c i).1 = (en40 r c j).1 → i = j := by
  rcases h with ⟨rfl, rfl⟩ | ⟨rfl, rfl⟩ | ⟨rfl, rfl⟩ | ⟨rfl, rfl⟩ | ⟨rfl, rfl⟩ | ⟨rfl, rfl⟩ | ⟨rfl, rfl⟩ | ⟨rfl, rfl⟩ | ⟨rfl, rfl⟩ | ⟨rfl, rfl⟩ | ⟨rfl, rfl⟩ | ⟨rfl, rfl⟩ | ⟨rfl, rfl⟩ | ⟨rfl, rfl⟩ | ⟨rfl, rfl⟩ | ⟨rfl, rfl⟩ <;> decide
set_option maxHeartbeats 2000000 in
theorem from40_ok (w : World) (op : Int) (r : Int) (c : Int) (h : r = 0 ∧ c = 0 ∨ r = 1 ∧ c = 1 ∨ r = 2 ∧ c = 2 ∨ r = 3 ∧ c = 3 ∨ r = 4 ∧ c = 4 ∨ r = 5 ∧ c = 5 ∨ r = 6 ∧ c = 6 ∨ r = 7 ∧ c = 7 ∨ r = 0 ∧ c = 8 ∨ r = 1 ∧ c = 9 ∨ r = 2 ∧ c = 10 ∨ r = 3 ∧ c = 11 ∨ r = 4 ∧ c = 12 ∨ r = 5 ∧ c = 13 ∨ r = 6 ∧ c = 14 ∨ r = 7 ∧ c = 15) (hr : bits .and .i64 op 7 = r) (r0 : 0 ≤ r) (r1 : r < 8) (hc : bits .and .i64 op 15 = c) (c0 : 0 ≤ c) (c1 : c < 16) :
    Calls Tryz.prog 15 #[.int .i64 op] w fun e w' => e = .returned (.map (some w.heap.size)) ∧ ∃ L, (∀ e, e ∈ L ↔ e ∈ L40 r c) ∧ (L.map Prod.fst).Nodup ∧ w' = md w L := by
  have hmm := @run_makeMap Tryz.prog
  have HK : Hid _ := ky40 r c h
  clear h
  go_enter Tryz.func15, Tryz.ntmps15
  go_wp2
  refine wp_region_any (by kernel_rfl) ?_
  refine wpAny_take (i := 1) (v := .int .i64 (r)) rfl (by kernel_rfl) (by kernel_rfl) (by kernel_rfl) (fun _ _ _ h => h) (Or.inl ⟨by rfl, by intro w; go_simp⟩) ?_
  refine wpAny_take (i := 2) (v := .int .i64 (64 + r)) rfl (by kernel_rfl) (by kernel_rfl) (by kernel_rfl) (fun _ _ _ h => h) (Or.inl ⟨by rfl, by intro w; go_simp; exact IntWalk.i64_in _ ⟨by omega, by omega⟩⟩) ?_
  refine wpAny_take (i := 4) (v := .int .i64 (r)) rfl (by kernel_rfl) (by kernel_rfl) (by kernel_rfl) (fun _ _ _ h => h) (Or.inl ⟨by rfl, by intro w; go_simp⟩) ?_
  refine wpAny_take (i := 5) (v := .int .i64 (72 + r)) rfl (by kernel_rfl) (by kernel_rfl) (by kernel_rfl) (fun _ _ _ h => h) (Or.inl ⟨by rfl, by intro w; go_simp; exact IntWalk.i64_in _ ⟨by omega, by omega⟩⟩) ?_
  refine wpAny_take (i := 7) (v := .int .i64 (r)) rfl (by kernel_rfl) (by kernel_rfl) (by kernel_rfl) (fun _ _ _ h => h) (Or.inl ⟨by rfl, by intro w; go_simp⟩) ?_
  refine wpAny_take (i := 8) (v := .int .i64 (80 + r)) rfl (by kernel_rfl) (by kernel_rfl) (by kernel_rfl) (fun _ _ _ h => h) (Or.inl ⟨by rfl, by intro w; go_simp; exact IntWalk.i64_in _ ⟨by omega, by omega⟩⟩) ?_
  refine wpAny_take (i := 10) (v := .int .i64 (r)) rfl (by kernel_rfl) (by kernel_rfl) (by kernel_rfl) (fun _ _ _ h => h) (Or.inl ⟨by rfl, by intro w; go_simp⟩) ?_
  refine wpAny_take (i := 11) (v := .int .i64 (88 + r)) rfl (by kernel_rfl) (by kernel_rfl) (by kernel_rfl) (fun _ _ _ h => h) (Or.inl ⟨by rfl, by intro w; go_simp; exact IntWalk.i64_in _ ⟨by omega, by omega⟩⟩) ?_
  refine wpAny_take (i := 19) (v := .int .i64 (c)) rfl (by kernel_rfl) (by kernel_rfl) (by kernel_rfl) (fun _ _ _ h => h) (Or.inl ⟨by rfl, by intro w; go_simp⟩) ?_
  refine wpAny_take (i := 20) (v := .int .i64 (112 + c)) rfl (by kernel_rfl) (by kernel_rfl) (by kernel_rfl) (fun _ _ _ h => h) (Or.inl ⟨by rfl, by intro w; go_simp; exact IntWalk.i64_in _ ⟨by omega, by omega⟩⟩) ?_
  refine wpAny_all (rs := [0]) (by kernel_rfl) (by simp) ?_
  intro i hi
  rw [List.mem_singleton] at hi
  subst hi
  refine step_make rfl rfl rfl rfl ?_
  refine ins_all (P := Tryz.prog) (md' := .any) _ w (en40 r c) ix40 ff40 _ (by kernel_rfl) rfl (by decide) HK.out (by kernel_rfl) (by kernel_rfl) ?_ 2 _ rfl ?_
  · intro i hi L K hL hK
    simp [ix40] at hi
    rcases hi with rfl | rfl | rfl | rfl | rfl | rfl | rfl | rfl | rfl | rfl | rfl
    all_goals exact step_ins rfl rfl rfl rfl (by kernel_rfl) (by kernel_rfl) (by kernel_rfl) hL hK
  · intro L hL hLn
    refine wpAny_take (i := 22) (v := .map (some w.heap.size)) rfl (by kernel_rfl) (by kernel_rfl) (by kernel_rfl) (fun _ _ _ h => h) (Or.inl ⟨by rfl, by intro w; go_simp⟩) ?_
    refine wpAny_all (rs := [23]) (by kernel_rfl) (by simp) ?_
    intro i hi
    rw [List.mem_singleton] at hi
    subst hi
    refine step_put rfl rfl rfl ?_
    refine wpAny_done (by kernel_rfl) ?_ _
    have HL : Hid (∀ e, e ∈ L ↔ e ∈ L40 r c) := hL
    have HN : Hid _ := hLn
    clear hL hLn
    refine then_act (a := { tmps := #[.int .i64 op, undef, .map (some w.heap.size), .int .i64 r, .int .i64 c, .int .i64 op, .int .i64 r, .int .i64 op, .int .i64 c, .map (some w.heap.size), .int .i64 (r), .int .i64 (64 + r), .int .i64 (r), .int .i64 (72 + r), .int .i64 (r), .int .i64 (80 + r), .int .i64 (r), .int .i64 (88 + r), .int .i64 (c), .int .i64 (112 + c), .map (some w.heap.size)], defers := [] }) (by kernel_rfl) ?_
    go_wp2
    go_ret
    exact ⟨rfl, L, HL.out, HN.out, rfl⟩
def L80 (r : Int) : List (Int × Nat) := [(128, 71), (129, 73), (131, 74), (132, 75), (133, 76), (134, 77), (135, 78), (136, 79), (137, 80), (138, 81), (139, 82), (140, 83), (141, 84), (142, 85), (143, 86), (144 + r, 88), (152, 89), (153, 90), (156, 91), (157, 92), (158, 93), (159, 94)]
theorem nd80 (r : Int) (h : r = 0 ∨ r = 1 ∨ r = 2 ∨ r = 3 ∨ r = 4 ∨ r = 5 ∨ r = 6 ∨ r = 7) : ((L80 r).map Prod.fst).Nodup := by
  rcases h with rfl | rfl | rfl | rfl | rfl | rfl | rfl | rfl <;> decide
def ix80 : List Nat := [1, 2, 3, 4, 5, 6, 7, 8, 9, 10, 11, 12, 13, 14, 15, 18, 19, 20, 21, 22, 23, 24]
def en80 (r : Int) (i : Nat) : Int × Nat := ([(0, 0), (128, 71), (129, 73), (131, 74), (132, 75), (133, 76), (134, 77), (135, 78), (136, 79), (137, 80), (138, 81), (139, 82), (140, 83), (141, 84), (142, 85), (143, 86), (0, 0), (0, 0), (144 + r, 88), (152, 89), (153, 90), (156, 91), (157, 92), (158, 93), (159, 94), (0, 0), (0, 0)] : List (Int × Nat)).getD i (0, 0)
def ff80 : Array Bool := #[true, true, true, true, true, true, true, true, true, true, true, true, true, true, true, true, true, true, true, true, true, true, true, true, true, false, false]
theorem ky80 (r : Int) (h : r = 0 ∨ r = 1 ∨ r = 2 ∨ r = 3 ∨ r = 4 ∨ r = 5 ∨ r = 6 ∨ r = 7) : ∀ i ∈ ix80, ∀ j ∈ ix80, (en80 r i).1 = (en80 r j).1 → i = j := by
  rcases h with rfl | rfl | rfl | rfl | rfl | rfl | rfl | rfl <;> decide
def upd9 (L : List (Int × Nat)) : List (Int × Nat) := if (∃ e ∈ L, e.1 = 144) then upd L 144 95 else L ++ [(144, 95)]
set_option maxHeartbeats 2000000 in
theorem from80_ok (w : World) (op : Int) (r : Int) (h : r = 0 ∨ r = 1 ∨ r = 2 ∨ r = 3 ∨ r = 4 ∨ r = 5 ∨ r = 6 ∨ r = 7) (hr : bits .and .i64 op 7 = r) (r0 : 0 ≤ r) (r1 : r < 8) :
    Calls Tryz.prog 16 #[.int .i64 op] w fun e w' => e = .returned (.map (some w.heap.size)) ∧ ∃ L, (∀ e, e ∈ L ↔ e ∈ L80 r) ∧ (L.map Prod.fst).Nodup ∧ w' = md w (upd9 L) := by
  have hmm := @run_makeMap Tryz.prog
  have HK : Hid _ := ky80 r h
  clear h
  go_enter Tryz.func16, Tryz.ntmps16
  go_wp2
  refine wp_region_any (by kernel_rfl) ?_
  refine wpAny_take (i := 16) (v := .int .i64 (r)) rfl (by kernel_rfl) (by kernel_rfl) (by kernel_rfl) (fun _ _ _ h => h) (Or.inl ⟨by rfl, by intro w; go_simp⟩) ?_
  refine wpAny_take (i := 17) (v := .int .i64 (144 + r)) rfl (by kernel_rfl) (by kernel_rfl) (by kernel_rfl) (fun _ _ _ h => h) (Or.inl ⟨by rfl, by intro w; go_simp; exact IntWalk.i64_in _ ⟨by omega, by omega⟩⟩) ?_
  refine wpAny_all (rs := [0]) (by kernel_rfl) (by simp) ?_
  intro i hi
  rw [List.mem_singleton] at hi
  subst hi
  refine step_make rfl rfl rfl rfl ?_
  refine ins_all (P := Tryz.prog) (md' := .any) _ w (en80 r) ix80 ff80 _ (by kernel_rfl) rfl (by decide) HK.out (by kernel_rfl) (by kernel_rfl) ?_ 2 _ rfl ?_
  · intro i hi L K hL hK
    simp [ix80] at hi
    rcases hi with rfl | rfl | rfl | rfl | rfl | rfl | rfl | rfl | rfl | rfl | rfl | rfl | rfl | rfl | rfl | rfl | rfl | rfl | rfl | rfl | rfl | rfl
    all_goals exact step_ins rfl rfl rfl rfl (by kernel_rfl) (by kernel_rfl) (by kernel_rfl) hL hK
  · intro L hL hLn
    refine wpAny_take (i := 25) (v := .map (some w.heap.size)) rfl (by kernel_rfl) (by kernel_rfl) (by kernel_rfl) (fun _ _ _ h => h) (Or.inl ⟨by rfl, by intro w; go_simp⟩) ?_
    refine wpAny_all (rs := [26]) (by kernel_rfl) (by simp) ?_
    intro i hi
    rw [List.mem_singleton] at hi
    subst hi
    refine step_put rfl rfl rfl ?_
    refine wpAny_done (by kernel_rfl) ?_ _
    have HL : Hid (∀ e, e ∈ L ↔ e ∈ L80 r) := hL
    have HN : Hid _ := hLn
    clear hL hLn
    refine then_act (a := { tmps := #[.int .i64 op, undef, .map none, .int .i64 r, .map (some w.heap.size), .int .i64 op, .int .i64 r, .map (some w.heap.size), .int .i64 (r), .int .i64 (144 + r), .map (some w.heap.size), undef, undef], defers := [] }) (by kernel_rfl) ?_
    have hu : (Instr.mapUpdate 50 (.map (some w.heap.size)) (.int .i64 144) (.func (.func 95) #[] #[])).run Tryz.prog (md w L) = .ok () (md w (upd9 L)) := by
      unfold upd9
      split
      · rename_i h9; exact upd_mp w.drew L 144 _ h9
      · rename_i h9; exact put_mp w.drew L 144 _ (fun e he hk => h9 ⟨e, he, hk⟩)
    go_wp2
    go_ret
    exact ⟨rfl, L, HL.out, HN.out, rfl⟩
def LA0 (r : Int) : List (Int × Nat) := [(160, 96), (161, 98), (162, 99), (163, 100), (164, 101), (165, 103), (166, 104), (167, 105), (168, 106), (169, 107), (170, 108), (171, 109), (172, 110), (173, 111), (174, 112), (175, 113), (176 + r, 114), (184 + r, 115)]
theorem ndA0 (r : Int) (h : r = 0 ∨ r = 1 ∨ r = 2 ∨ r = 3 ∨ r = 4 ∨ r = 5 ∨ r = 6 ∨ r = 7) : ((LA0 r).map Prod.fst).Nodup := by
  rcases h with rfl | rfl | rfl | rfl | rfl | rfl | rfl | rfl <;> decide
def ixA0 : List Nat := [1, 2, 3, 4, 5, 6, 7, 8, 9, 10, 11, 12, 13, 14, 15, 16, 19, 22]
def enA0 (r : Int) (i : Nat) : Int × Nat := ([(0, 0), (160, 96), (161, 98), (162, 99), (163, 100), (164, 101), (165, 103), (166, 104), (167, 105), (168, 106), (169, 107), (170, 108), (171, 109), (172, 110), (173, 111), (174, 112), (175, 113), (0, 0), (0, 0), (176 + r, 114), (0, 0), (0, 0), (184 + r, 115), (0, 0), (0, 0)] : List (Int × Nat)).getD i (0, 0)
def ffA0 : Array Bool := #[true, true, true, true, true, true, true, true, true, true, true, true, true, true, true, true, true, true, true, true, true, true, true, false, false]
theorem kyA0 (r : Int) (h : r = 0 ∨ r = 1 ∨ r = 2 ∨ r = 3 ∨ r = 4 ∨ r = 5 ∨ r = 6 ∨ r = 7) : ∀ i ∈ ixA0, ∀ j ∈ ixA0, (enA0 r i).1 = (enA0 r j).1 → i = j := by
  rcases h with rfl | rfl | rfl | rfl | rfl | rfl | rfl | rfl <;> decide
set_option maxHeartbeats 2000000 in
theorem fromA0_ok (w : World) (op : Int) (r : Int) (h : r = 0 ∨ r = 1 ∨ r = 2 ∨ r = 3 ∨ r = 4 ∨ r = 5 ∨ r = 6 ∨ r = 7) (hr : bits .and .i64 op 7 = r) (r0 : 0 ≤ r) (r1 : r < 8) :
    Calls Tryz.prog 17 #[.int .i64 op] w fun e w' => e = .returned (.map (some w.heap.size)) ∧ ∃ L, (∀ e, e ∈ L ↔ e ∈ LA0 r) ∧ (L.map Prod.fst).Nodup ∧ w' = md w L := by
  have hmm := @run_makeMap Tryz.prog
  have HK : Hid _ := kyA0 r h
  clear h
  go_enter Tryz.func17, Tryz.ntmps17
  go_wp2
  refine wp_region_any (by kernel_rfl) ?_
  refine wpAny_take (i := 17) (v := .int .i64 (r)) rfl (by kernel_rfl) (by kernel_rfl) (by kernel_rfl) (fun _ _ _ h => h) (Or.inl ⟨by rfl, by intro w; go_simp⟩) ?_
  refine wpAny_take (i := 18) (v := .int .i64 (176 + r)) rfl (by kernel_rfl) (by kernel_rfl) (by kernel_rfl) (fun _ _ _ h => h) (Or.inl ⟨by rfl, by intro w; go_simp; exact IntWalk.i64_in _ ⟨by omega, by omega⟩⟩) ?_
  refine wpAny_take (i := 20) (v := .int .i64 (r)) rfl (by kernel_rfl) (by kernel_rfl) (by kernel_rfl) (fun _ _ _ h => h) (Or.inl ⟨by rfl, by intro w; go_simp⟩) ?_
  refine wpAny_take (i := 21) (v := .int .i64 (184 + r)) rfl (by kernel_rfl) (by kernel_rfl) (by kernel_rfl) (fun _ _ _ h => h) (Or.inl ⟨by rfl, by intro w; go_simp; exact IntWalk.i64_in _ ⟨by omega, by omega⟩⟩) ?_
  refine wpAny_all (rs := [0]) (by kernel_rfl) (by simp) ?_
  intro i hi
  rw [List.mem_singleton] at hi
  subst hi
  refine step_make rfl rfl rfl rfl ?_
  refine ins_all (P := Tryz.prog) (md' := .any) _ w (enA0 r) ixA0 ffA0 _ (by kernel_rfl) rfl (by decide) HK.out (by kernel_rfl) (by kernel_rfl) ?_ 2 _ rfl ?_
  · intro i hi L K hL hK
    simp [ixA0] at hi
    rcases hi with rfl | rfl | rfl | rfl | rfl | rfl | rfl | rfl | rfl | rfl | rfl | rfl | rfl | rfl | rfl | rfl | rfl | rfl
    all_goals exact step_ins rfl rfl rfl rfl (by kernel_rfl) (by kernel_rfl) (by kernel_rfl) hL hK
  · intro L hL hLn
    refine wpAny_take (i := 23) (v := .map (some w.heap.size)) rfl (by kernel_rfl) (by kernel_rfl) (by kernel_rfl) (fun _ _ _ h => h) (Or.inl ⟨by rfl, by intro w; go_simp⟩) ?_
    refine wpAny_all (rs := [24]) (by kernel_rfl) (by simp) ?_
    intro i hi
    rw [List.mem_singleton] at hi
    subst hi
    refine step_put rfl rfl rfl ?_
    refine wpAny_done (by kernel_rfl) ?_ _
    have HL : Hid (∀ e, e ∈ L ↔ e ∈ LA0 r) := hL
    have HN : Hid _ := hLn
    clear hL hLn
    refine then_act (a := { tmps := #[.int .i64 op, undef, .map (some w.heap.size), .int .i64 r, .int .i64 op, .int .i64 r, .map (some w.heap.size), .int .i64 (r), .int .i64 (176 + r), .int .i64 (r), .int .i64 (184 + r), .map (some w.heap.size)], defers := [] }) (by kernel_rfl) ?_
    go_wp2
    go_ret
    exact ⟨rfl, L, HL.out, HN.out, rfl⟩
def LC0 : List (Int × Nat) := [(192, 116), (193, 118), (194, 119), (195, 121), (198, 123), (199, 124), (201, 125), (204, 126), (205, 127), (206, 128), (207, 129), (208, 130), (209, 131), (210, 132), (211, 134), (212, 135), (213, 136)]
theorem ndC0 : (LC0.map Prod.fst).Nodup := by decide
set_option maxHeartbeats 2000000 in
theorem fromC0_ok (w : World) :
    Calls Tryz.prog 18 #[] w fun e w' => e = .returned (.map (some w.heap.size)) ∧ w' = mp w (LC0) := by
  have hmm := @run_makeMap Tryz.prog
  have p0 : (Instr.mapUpdate 50 (.map (some w.heap.size)) (.int .i64 (192)) (.func (.func 116) #[] #[])).run Tryz.prog (w.alloc (.map #[] 0)) = .ok () (mp w ((LC0).take 1)) := put_take w (LC0) (ndC0) 0 (by simp [LC0])
  have p1 : (Instr.mapUpdate 50 (.map (some w.heap.size)) (.int .i64 (193)) (.func (.func 118) #[] #[])).run Tryz.prog (mp w ((LC0).take 1)) = .ok () (mp w ((LC0).take 2)) := put_take w (LC0) (ndC0) 1 (by simp [LC0])
  have p2 : (Instr.mapUpdate 50 (.map (some w.heap.size)) (.int .i64 (194)) (.func (.func 119) #[] #[])).run Tryz.prog (mp w ((LC0).take 2)) = .ok () (mp w ((LC0).take 3)) := put_take w (LC0) (ndC0) 2 (by simp [LC0])
  have p3 : (Instr.mapUpdate 50 (.map (some w.heap.size)) (.int .i64 (195)) (.func (.func 121) #[] #[])).run Tryz.prog (mp w ((LC0).take 3)) = .ok () (mp w ((LC0).take 4)) := put_take w (LC0) (ndC0) 3 (by simp [LC0])
  have p4 : (Instr.mapUpdate 50 (.map (some w.heap.size)) (.int .i64 (198)) (.func (.func 123) #[] #[])).run Tryz.prog (mp w ((LC0).take 4)) = .ok () (mp w ((LC0).take 5)) := put_take w (LC0) (ndC0) 4 (by simp [LC0])
  have p5 : (Instr.mapUpdate 50 (.map (some w.heap.size)) (.int .i64 (199)) (.func (.func 124) #[] #[])).run Tryz.prog (mp w ((LC0).take 5)) = .ok () (mp w ((LC0).take 6)) := put_take w (LC0) (ndC0) 5 (by simp [LC0])
  have p6 : (Instr.mapUpdate 50 (.map (some w.heap.size)) (.int .i64 (201)) (.func (.func 125) #[] #[])).run Tryz.prog (mp w ((LC0).take 6)) = .ok () (mp w ((LC0).take 7)) := put_take w (LC0) (ndC0) 6 (by simp [LC0])
  have p7 : (Instr.mapUpdate 50 (.map (some w.heap.size)) (.int .i64 (204)) (.func (.func 126) #[] #[])).run Tryz.prog (mp w ((LC0).take 7)) = .ok () (mp w ((LC0).take 8)) := put_take w (LC0) (ndC0) 7 (by simp [LC0])
  have p8 : (Instr.mapUpdate 50 (.map (some w.heap.size)) (.int .i64 (205)) (.func (.func 127) #[] #[])).run Tryz.prog (mp w ((LC0).take 8)) = .ok () (mp w ((LC0).take 9)) := put_take w (LC0) (ndC0) 8 (by simp [LC0])
  have p9 : (Instr.mapUpdate 50 (.map (some w.heap.size)) (.int .i64 (206)) (.func (.func 128) #[] #[])).run Tryz.prog (mp w ((LC0).take 9)) = .ok () (mp w ((LC0).take 10)) := put_take w (LC0) (ndC0) 9 (by simp [LC0])
  have p10 : (Instr.mapUpdate 50 (.map (some w.heap.size)) (.int .i64 (207)) (.func (.func 129) #[] #[])).run Tryz.prog (mp w ((LC0).take 10)) = .ok () (mp w ((LC0).take 11)) := put_take w (LC0) (ndC0) 10 (by simp [LC0])
  have p11 : (Instr.mapUpdate 50 (.map (some w.heap.size)) (.int .i64 (208)) (.func (.func 130) #[] #[])).run Tryz.prog (mp w ((LC0).take 11)) = .ok () (mp w ((LC0).take 12)) := put_take w (LC0) (ndC0) 11 (by simp [LC0])
  have p12 : (Instr.mapUpdate 50 (.map (some w.heap.size)) (.int .i64 (209)) (.func (.func 131) #[] #[])).run Tryz.prog (mp w ((LC0).take 12)) = .ok () (mp w ((LC0).take 13)) := put_take w (LC0) (ndC0) 12 (by simp [LC0])
  have p13 : (Instr.mapUpdate 50 (.map (some w.heap.size)) (.int .i64 (210)) (.func (.func 132) #[] #[])).run Tryz.prog (mp w ((LC0).take 13)) = .ok () (mp w ((LC0).take 14)) := put_take w (LC0) (ndC0) 13 (by simp [LC0])
  have p14 : (Instr.mapUpdate 50 (.map (some w.heap.size)) (.int .i64 (211)) (.func (.func 134) #[] #[])).run Tryz.prog (mp w ((LC0).take 14)) = .ok () (mp w ((LC0).take 15)) := put_take w (LC0) (ndC0) 14 (by simp [LC0])
  have p15 : (Instr.mapUpdate 50 (.map (some w.heap.size)) (.int .i64 (212)) (.func (.func 135) #[] #[])).run Tryz.prog (mp w ((LC0).take 15)) = .ok () (mp w ((LC0).take 16)) := put_take w (LC0) (ndC0) 15 (by simp [LC0])
  have p16 : (Instr.mapUpdate 50 (.map (some w.heap.size)) (.int .i64 (213)) (.func (.func 136) #[] #[])).run Tryz.prog (mp w ((LC0).take 16)) = .ok () (mp w (LC0)) := put_take w (LC0) (ndC0) 16 (by simp [LC0])
  go_enter Tryz.func18, Tryz.ntmps18
  go_wp2
  go_ret
  exact ⟨rfl, rfl⟩
def LE0 : List (Int × Nat) := [(224, 137), (225, 138), (226, 139), (227, 140), (228, 141), (229, 142), (230, 143), (231, 144), (232, 145), (233, 147), (234, 148), (235, 150), (236, 151), (237, 153), (238, 154), (239, 155), (244, 156), (245, 157), (246, 158), (247, 160), (248, 161), (249, 162), (250, 163), (251, 164), (252, 165), (253, 166), (254, 167), (255, 168)]
theorem ndE0 : (LE0.map Prod.fst).Nodup := by decide
set_option maxHeartbeats 2000000 in
theorem fromE0_ok (w : World) :
    Calls Tryz.prog 19 #[] w fun e w' => e = .returned (.map (some w.heap.size)) ∧ w' = mp w (LE0) := by
  have hmm := @run_makeMap Tryz.prog
  have p0 : (Instr.mapUpdate 50 (.map (some w.heap.size)) (.int .i64 (224)) (.func (.func 137) #[] #[])).run Tryz.prog (w.alloc (.map #[] 0)) = .ok () (mp w ((LE0).take 1)) := put_take w (LE0) (ndE0) 0 (by simp [LE0])
  have p1 : (Instr.mapUpdate 50 (.map (some w.heap.size)) (.int .i64 (225)) (.func (.func 138) #[] #[])).run Tryz.prog (mp w ((LE0).take 1)) = .ok () (mp w ((LE0).take 2)) := put_take w (LE0) (ndE0) 1 (by simp [LE0])
  have p2 : (Instr.mapUpdate 50 (.map (some w.heap.size)) (.int .i64 (226)) (.func (.func 139) #[] #[])).run Tryz.prog (mp w ((LE0).take 2)) = .ok () (mp w ((LE0).take 3)) := put_take w (LE0) (ndE0) 2 (by simp [LE0])
  have p3 : (Instr.mapUpdate 50 (.map (some w.heap.size)) (.int .i64 (227)) (.func (.func 140) #[] #[])).run Tryz.prog (mp w ((LE0).take 3)) = .ok () (mp w ((LE0).take 4)) := put_take w (LE0) (ndE0) 3 (by simp [LE0])
  have p4 : (Instr.mapUpdate 50 (.map (some w.heap.size)) (.int .i64 (228)) (.func (.func 141) #[] #[])).run Tryz.prog (mp w ((LE0).take 4)) = .ok () (mp w ((LE0).take 5)) := put_take w (LE0) (ndE0) 4 (by simp [LE0])
  have p5 : (Instr.mapUpdate 50 (.map (some w.heap.size)) (.int .i64 (229)) (.func (.func 142) #[] #[])).run Tryz.prog (mp w ((LE0).take 5)) = .ok () (mp w ((LE0).take 6)) := put_take w (LE0) (ndE0) 5 (by simp [LE0])
  have p6 : (Instr.mapUpdate 50 (.map (some w.heap.size)) (.int .i64 (230)) (.func (.func 143) #[] #[])).run Tryz.prog (mp w ((LE0).take 6)) = .ok () (mp w ((LE0).take 7)) := put_take w (LE0) (ndE0) 6 (by simp [LE0])
  have p7 : (Instr.mapUpdate 50 (.map (some w.heap.size)) (.int .i64 (231)) (.func (.func 144) #[] #[])).run Tryz.prog (mp w ((LE0).take 7)) = .ok () (mp w ((LE0).take 8)) := put_take w (LE0) (ndE0) 7 (by simp [LE0])
  have p8 : (Instr.mapUpdate 50 (.map (some w.heap.size)) (.int .i64 (232)) (.func (.func 145) #[] #[])).run Tryz.prog (mp w ((LE0).take 8)) = .ok () (mp w ((LE0).take 9)) := put_take w (LE0) (ndE0) 8 (by simp [LE0])
  have p9 : (Instr.mapUpdate 50 (.map (some w.heap.size)) (.int .i64 (233)) (.func (.func 147) #[] #[])).run Tryz.prog (mp w ((LE0).take 9)) = .ok () (mp w ((LE0).take 10)) := put_take w (LE0) (ndE0) 9 (by simp [LE0])
  have p10 : (Instr.mapUpdate 50 (.map (some w.heap.size)) (.int .i64 (234)) (.func (.func 148) #[] #[])).run Tryz.prog (mp w ((LE0).take 10)) = .ok () (mp w ((LE0).take 11)) := put_take w (LE0) (ndE0) 10 (by simp [LE0])
  have p11 : (Instr.mapUpdate 50 (.map (some w.heap.size)) (.int .i64 (235)) (.func (.func 150) #[] #[])).run Tryz.prog (mp w ((LE0).take 11)) = .ok () (mp w ((LE0).take 12)) := put_take w (LE0) (ndE0) 11 (by simp [LE0])
  have p12 : (Instr.mapUpdate 50 (.map (some w.heap.size)) (.int .i64 (236)) (.func (.func 151) #[] #[])).run Tryz.prog (mp w ((LE0).take 12)) = .ok () (mp w ((LE0).take 13)) := put_take w (LE0) (ndE0) 12 (by simp [LE0])
  have p13 : (Instr.mapUpdate 50 (.map (some w.heap.size)) (.int .i64 (237)) (.func (.func 153) #[] #[])).run Tryz.prog (mp w ((LE0).take 13)) = .ok () (mp w ((LE0).take 14)) := put_take w (LE0) (ndE0) 13 (by simp [LE0])
  have p14 : (Instr.mapUpdate 50 (.map (some w.heap.size)) (.int .i64 (238)) (.func (.func 154) #[] #[])).run Tryz.prog (mp w ((LE0).take 14)) = .ok () (mp w ((LE0).take 15)) := put_take w (LE0) (ndE0) 14 (by simp [LE0])
  have p15 : (Instr.mapUpdate 50 (.map (some w.heap.size)) (.int .i64 (239)) (.func (.func 155) #[] #[])).run Tryz.prog (mp w ((LE0).take 15)) = .ok () (mp w ((LE0).take 16)) := put_take w (LE0) (ndE0) 15 (by simp [LE0])
  have p16 : (Instr.mapUpdate 50 (.map (some w.heap.size)) (.int .i64 (244)) (.func (.func 156) #[] #[])).run Tryz.prog (mp w ((LE0).take 16)) = .ok () (mp w ((LE0).take 17)) := put_take w (LE0) (ndE0) 16 (by simp [LE0])
  have p17 : (Instr.mapUpdate 50 (.map (some w.heap.size)) (.int .i64 (245)) (.func (.func 157) #[] #[])).run Tryz.prog (mp w ((LE0).take 17)) = .ok () (mp w ((LE0).take 18)) := put_take w (LE0) (ndE0) 17 (by simp [LE0])
  have p18 : (Instr.mapUpdate 50 (.map (some w.heap.size)) (.int .i64 (246)) (.func (.func 158) #[] #[])).run Tryz.prog (mp w ((LE0).take 18)) = .ok () (mp w ((LE0).take 19)) := put_take w (LE0) (ndE0) 18 (by simp [LE0])
  have p19 : (Instr.mapUpdate 50 (.map (some w.heap.size)) (.int .i64 (247)) (.func (.func 160) #[] #[])).run Tryz.prog (mp w ((LE0).take 19)) = .ok () (mp w ((LE0).take 20)) := put_take w (LE0) (ndE0) 19 (by simp [LE0])
  have p20 : (Instr.mapUpdate 50 (.map (some w.heap.size)) (.int .i64 (248)) (.func (.func 161) #[] #[])).run Tryz.prog (mp w ((LE0).take 20)) = .ok () (mp w ((LE0).take 21)) := put_take w (LE0) (ndE0) 20 (by simp [LE0])
  have p21 : (Instr.mapUpdate 50 (.map (some w.heap.size)) (.int .i64 (249)) (.func (.func 162) #[] #[])).run Tryz.prog (mp w ((LE0).take 21)) = .ok () (mp w ((LE0).take 22)) := put_take w (LE0) (ndE0) 21 (by simp [LE0])
  have p22 : (Instr.mapUpdate 50 (.map (some w.heap.size)) (.int .i64 (250)) (.func (.func 163) #[] #[])).run Tryz.prog (mp w ((LE0).take 22)) = .ok () (mp w ((LE0).take 23)) := put_take w (LE0) (ndE0) 22 (by simp [LE0])
  have p23 : (Instr.mapUpdate 50 (.map (some w.heap.size)) (.int .i64 (251)) (.func (.func 164) #[] #[])).run Tryz.prog (mp w ((LE0).take 23)) = .ok () (mp w ((LE0).take 24)) := put_take w (LE0) (ndE0) 23 (by simp [LE0])
  have p24 : (Instr.mapUpdate 50 (.map (some w.heap.size)) (.int .i64 (252)) (.func (.func 165) #[] #[])).run Tryz.prog (mp w ((LE0).take 24)) = .ok () (mp w ((LE0).take 25)) := put_take w (LE0) (ndE0) 24 (by simp [LE0])
  have p25 : (Instr.mapUpdate 50 (.map (some w.heap.size)) (.int .i64 (253)) (.func (.func 166) #[] #[])).run Tryz.prog (mp w ((LE0).take 25)) = .ok () (mp w ((LE0).take 26)) := put_take w (LE0) (ndE0) 25 (by simp [LE0])
  have p26 : (Instr.mapUpdate 50 (.map (some w.heap.size)) (.int .i64 (254)) (.func (.func 167) #[] #[])).run Tryz.prog (mp w ((LE0).take 26)) = .ok () (mp w ((LE0).take 27)) := put_take w (LE0) (ndE0) 26 (by simp [LE0])
  have p27 : (Instr.mapUpdate 50 (.map (some w.heap.size)) (.int .i64 (255)) (.func (.func 168) #[] #[])).run Tryz.prog (mp w ((LE0).take 27)) = .ok () (mp w (LE0)) := put_take w (LE0) (ndE0) 27 (by simp [LE0])
  go_enter Tryz.func19, Tryz.ntmps19
  go_wp2
  go_ret
  exact ⟨rfl, rfl⟩
def L0F (r : Int) (c : Int) : List (Int × Nat) := [(3840, 169), (3841, 170), (3846, 171), (3872, 172), (3874, 175), (3904 + c, 176), (3968 + c, 177), (3984 + c, 178), (4000, 179), (4001, 180), (4003, 181), (4004, 182), (4005, 183), (4008, 184), (4009, 185), (4011, 186), (4012, 187), (4013, 188), (4015, 189), (4019, 190), (4022, 191), (4023, 193), (4026, 195), (4027, 196), (4028, 197), (4029, 198), (4030, 199), (4031, 200), (4040 + r, 201)]
theorem nd0F (r : Int) (c : Int) (h : r = 0 ∧ c = 0 ∨ r = 1 ∧ c = 1 ∨ r = 2 ∧ c = 2 ∨ r = 3 ∧ c = 3 ∨ r = 4 ∧ c = 4 ∨ r = 5 ∧ c = 5 ∨ r = 6 ∧ c = 6 ∨ r = 7 ∧ c = 7 ∨ r = 0 ∧ c = 8 ∨ r = 1 ∧ c = 9 ∨ r = 2 ∧ c = 10 ∨ r = 3 ∧ c = 11 ∨ r = 4 ∧ c = 12 ∨ r = 5 ∧ c = 13 ∨ r = 6 ∧ c = 14 ∨ r = 7 ∧ c = 15) : ((L0F r c).map Prod.fst).Nodup := by
  rcases h with ⟨rfl, rfl⟩ | ⟨rfl, rfl⟩ | ⟨rfl, rfl⟩ | ⟨rfl, rfl⟩ | ⟨rfl, rfl⟩ | ⟨rfl, rfl⟩ | ⟨rfl, rfl⟩ | ⟨rfl, rfl⟩ | ⟨rfl, rfl⟩ | ⟨rfl, rfl⟩ | ⟨rfl, rfl⟩ | ⟨rfl, rfl⟩ | ⟨rfl, rfl⟩ | ⟨rfl, rfl⟩ | ⟨rfl, rfl⟩ | ⟨rfl, rfl⟩ <;> decide
def ix0F : List Nat := [1, 2, 3, 4, 5, 8, 11, 14, 15, 16, 17, 18, 19, 20, 21, 22, 23, 24, 25, 26, 27, 28, 29, 30, 31, 32, 33, 34, 37]
def en0F (r : Int) (c : Int) (i : Nat) : Int × Nat := ([(0, 0), (3840, 169), (3841, 170), (3846, 171), (3872, 172), (3874, 175), (0, 0), (0, 0), (3904 + c, 176), (0, 0), (0, 0), (3968 + c, 177), (0, 0), (0, 0), (3984 + c, 178), (4000, 179), (4001, 180), (4003, 181), (4004, 182), (4005, 183), (4008, 184), (4009, 185), (4011, 186), (4012, 187), (4013, 188), (4015, 189), (4019, 190), (4022, 191), (4023, 193), (4026, 195), (4027, 196), (4028, 197), (4029, 198), (4030, 199), (4031, 200), (0, 0), (0, 0), (4040 + r, 201), (0, 0), (0, 0)] : List (Int × Nat)).getD i (0, 0)
def ff0F : Array Bool := #[true, true, true, true, true, true, true, true, true, true, true, true, true, true, true, true, true, true, true, true, true, true, true, true, true, true, true, true, true, true, true, true, true, true, true, true, true, true, false, false]
theorem ky0F (r : Int) (c : Int) (h : r = 0 ∧ c = 0 ∨ r = 1 ∧ c = 1 ∨ r = 2 ∧ c = 2 ∨ r = 3 ∧ c = 3 ∨ r = 4 ∧ c = 4 ∨ r = 5 ∧ c = 5 ∨ r = 6 ∧ c = 6 ∨ r = 7 ∧ c = 7 ∨ r = 0 ∧ c = 8 ∨ r = 1 ∧ c = 9 ∨ r = 2 ∧ c = 10 ∨ r = 3 ∧ c = 11 ∨ r = 4 ∧ c = 12 ∨ r = 5 ∧ c = 13 ∨ r = 6 ∧ c = 14 ∨ r = 7 ∧ c = 15) : ∀ i ∈ ix0F, ∀ j ∈ ix0F, (en0F r c i).1 = (en0F r c j).1 → i = j := by
  rcases h with ⟨rfl, rfl⟩ | ⟨rfl, rfl⟩ | ⟨rfl, rfl⟩ | ⟨rfl, rfl⟩ | ⟨rfl, rfl⟩ | ⟨rfl, rfl⟩ | ⟨rfl, rfl⟩ | ⟨rfl, rfl⟩ | ⟨rfl, rfl⟩ | ⟨rfl, rfl⟩ | ⟨rfl, rfl⟩ | ⟨rfl, rfl⟩ | ⟨rfl, rfl⟩ | ⟨rfl, rfl⟩ | ⟨rfl, rfl⟩ | ⟨rfl, rfl⟩ <;> decide
set_option maxHeartbeats 2000000 in
theorem from0F_ok (w : World) (op : Int) (r : Int) (c : Int) (h : r = 0 ∧ c = 0 ∨ r = 1 ∧ c = 1 ∨ r = 2 ∧ c = 2 ∨ r = 3 ∧ c = 3 ∨ r = 4 ∧ c = 4 ∨ r = 5 ∧ c = 5 ∨ r = 6 ∧ c = 6 ∨ r = 7 ∧ c = 7 ∨ r = 0 ∧ c = 8 ∨ r = 1 ∧ c = 9 ∨ r = 2 ∧ c = 10 ∨ r = 3 ∧ c = 11 ∨ r = 4 ∧ c = 12 ∨ r = 5 ∧ c = 13 ∨ r = 6 ∧ c = 14 ∨ r = 7 ∧ c = 15) (hr : bits .and .i64 op 7 = r) (r0 : 0 ≤ r) (r1 : r < 8) (hc : bits .and .i64 op 15 = c) (c0 : 0 ≤ c) (c1 : c < 16) :
    Calls Tryz.prog 20 #[.int .i64 op] w fun e w' => e = .returned (.map (some w.heap.size)) ∧ ∃ L, (∀ e, e ∈ L ↔ e ∈ L0F r c) ∧ (L.map Prod.fst).Nodup ∧ w' = md w L := by
  have hmm := @run_makeMap Tryz.prog
  have HK : Hid _ := ky0F r c h
  clear h
  go_enter Tryz.func20, Tryz.ntmps20
  go_wp2
  refine wp_region_any (by kernel_rfl) ?_
  refine wpAny_take (i := 6) (v := .int .i64 (c)) rfl (by kernel_rfl) (by kernel_rfl) (by kernel_rfl) (fun _ _ _ h => h) (Or.inl ⟨by rfl, by intro w; go_simp⟩) ?_
  refine wpAny_take (i := 7) (v := .int .i64 (3904 + c)) rfl (by kernel_rfl) (by kernel_rfl) (by kernel_rfl) (fun _ _ _ h => h) (Or.inl ⟨by rfl, by intro w; go_simp; exact IntWalk.i64_in _ ⟨by omega, by omega⟩⟩) ?_
  refine wpAny_take (i := 9) (v := .int .i64 (c)) rfl (by kernel_rfl) (by kernel_rfl) (by kernel_rfl) (fun _ _ _ h => h) (Or.inl ⟨by rfl, by intro w; go_simp⟩) ?_
  refine wpAny_take (i := 10) (v := .int .i64 (3968 + c)) rfl (by kernel_rfl) (by kernel_rfl) (by kernel_rfl) (fun _ _ _ h => h) (Or.inl ⟨by rfl, by intro w; go_simp; exact IntWalk.i64_in _ ⟨by omega, by omega⟩⟩) ?_
  refine wpAny_take (i := 12) (v := .int .i64 (c)) rfl (by kernel_rfl) (by kernel_rfl) (by kernel_rfl) (fun _ _ _ h => h) (Or.inl ⟨by rfl, by intro w; go_simp⟩) ?_
  refine wpAny_take (i := 13) (v := .int .i64 (3984 + c)) rfl (by kernel_rfl) (by kernel_rfl) (by kernel_rfl) (fun _ _ _ h => h) (Or.inl ⟨by rfl, by intro w; go_simp; exact IntWalk.i64_in _ ⟨by omega, by omega⟩⟩) ?_
  refine wpAny_take (i := 35) (v := .int .i64 (r)) rfl (by kernel_rfl) (by kernel_rfl) (by kernel_rfl) (fun _ _ _ h => h) (Or.inl ⟨by rfl, by intro w; go_simp⟩) ?_
  refine wpAny_take (i := 36) (v := .int .i64 (4040 + r)) rfl (by kernel_rfl) (by kernel_rfl) (by kernel_rfl) (fun _ _ _ h => h) (Or.inl ⟨by rfl, by intro w; go_simp; exact IntWalk.i64_in _ ⟨by omega, by omega⟩⟩) ?_
  refine wpAny_all (rs := [0]) (by kernel_rfl) (by simp) ?_
  intro i hi
  rw [List.mem_singleton] at hi
  subst hi
  refine step_make rfl rfl rfl rfl ?_
  refine ins_all (P := Tryz.prog) (md' := .any) _ w (en0F r c) ix0F ff0F _ (by kernel_rfl) rfl (by decide) HK.out (by kernel_rfl) (by kernel_rfl) ?_ 2 _ rfl ?_
  · intro i hi L K hL hK
    simp [ix0F] at hi
    rcases hi with rfl | rfl | rfl | rfl | rfl | rfl | rfl | rfl | rfl | rfl | rfl | rfl | rfl | rfl | rfl | rfl | rfl | rfl | rfl | rfl | rfl | rfl | rfl | rfl | rfl | rfl | rfl | rfl | rfl
    all_goals exact step_ins rfl rfl rfl rfl (by kernel_rfl) (by kernel_rfl) (by kernel_rfl) hL hK
  · intro L hL hLn
    refine wpAny_take (i := 38) (v := .map (some w.heap.size)) rfl (by kernel_rfl) (by kernel_rfl) (by kernel_rfl) (fun _ _ _ h => h) (Or.inl ⟨by rfl, by intro w; go_simp⟩) ?_
    refine wpAny_all (rs := [39]) (by kernel_rfl) (by simp) ?_
    intro i hi
    rw [List.mem_singleton] at hi
    subst hi
    refine step_put rfl rfl rfl ?_
    refine wpAny_done (by kernel_rfl) ?_ _
    have HL : Hid (∀ e, e ∈ L ↔ e ∈ L0F r c) := hL
    have HN : Hid _ := hLn
    clear hL hLn
    refine then_act (a := { tmps := #[.int .i64 op, undef, .map (some w.heap.size), .int .i64 r, .int .i64 c, .int .i64 op, .int .i64 r, .int .i64 op, .int .i64 c, .map (some w.heap.size), .int .i64 (c), .int .i64 (3904 + c), .int .i64 (c), .int .i64 (3968 + c), .int .i64 (c), .int .i64 (3984 + c), .int .i64 (r), .int .i64 (4040 + r), .map (some w.heap.size)], defers := [] }) (by kernel_rfl) ?_
    go_wp2
    go_ret
    exact ⟨rfl, L, HL.out, HN.out, rfl⟩
end Go.Proofs.YtbfccfhjgopnbaaGreat
namespace Go.Proofs.YtbfccfhjgopnbaaGreat
open Go.ChangeShapes Go.WideShapes Go.ChangeAt Go.RowKit
set_option linter.unusedVariables false
def rowOf (op : Int) : Option Nat :=
  if op / 32 = 0 ∨ op / 32 = 1 then look (L00 (op - op % 8)) op else if op / 32 = 2 ∨ op / 32 = 3 then look (L40 (op % 8) (op % 16)) op
  else if op / 32 = 4 then (if op = 144 then some 95 else look (L80 (op % 8)) op) else if op / 32 = 5 then look (LA0 (op % 8)) op
  else if op / 32 = 6 then look LC0 op else if op / 32 = 7 then look LE0 op else look (L0F (op % 8) (op % 16)) op
theorem andNot7 : ∀ k : Fin 64, bits .andNot .i64 ((k : Nat) : Int) 7 = ((k : Nat) : Int) - ((k : Nat) : Int) % 8 := by decide +kernel
theorem md_kp (w : World) (L : List (Int × Nat)) : Kp noB w (md w L) := (Kp.alloc _ _ _).drewN 1
theorem mp_kp (w : World) (L : List (Int × Nat)) : Kp noB w (mp w L) := Kp.alloc _ _ _
theorem look_upd9 {L : List (Int × Nat)} (n : (L.map Prod.fst).Nodup) (i : Int) : look (upd9 L) i = if i = 144 then some 95 else look L i := by
  unfold upd9
  split
  · rename_i h; exact look_upd L 144 _ i h
  · rename_i h
    have key : ∀ (M : List (Int × Nat)), (¬ ∃ e ∈ M, e.1 = 144) → look (M ++ [(144, 95)]) i = if i = 144 then some 95 else look M i := by
      intro M
      induction M with
      | nil => intro _; simp [look]
      | cons x r ih =>
        intro hM
        have hx : ¬ x.1 = 144 := fun e => hM ⟨x, by simp, e⟩
        have hr : ¬ ∃ e ∈ r, e.1 = 144 := fun ⟨e, he, hk⟩ => hM ⟨e, by simp [he], hk⟩
        simp only [List.cons_append, look, ih hr]
        by_cases hi : i = x.1
        · have : ¬ i = 144 := fun e => hx (by rw [← hi]; exact e)
          simp [hi, hx]
        · simp [hi]
    exact key L h
set_option maxHeartbeats 4000000 in
theorem find_ok (w : World) (op : Int) (h0 : 0 ≤ op) (h1 : op < 4096) :
    Calls Tryz.prog 10 #[.int .i64 op] w fun e w' => e = .returned (rvN (rowOf op)) ∧ Kp noB w w' := by
  obtain ⟨V, hV⟩ : ∃ V, V = rowOf op := ⟨_, rfl⟩
  rw [← hV]
  have HV : Hid (V = rowOf op) := hV
  clear hV
  have hr := and7 op
  have hc := and15 op
  obtain ⟨q, hq⟩ : ∃ q, op / 32 = q := ⟨_, rfl⟩
  have c8 : op % 8 = 0 ∨ op % 8 = 1 ∨ op % 8 = 2 ∨ op % 8 = 3 ∨ op % 8 = 4 ∨ op % 8 = 5 ∨ op % 8 = 6 ∨ op % 8 = 7 := by omega
  have c16 : (op % 8 = 0 ∧ op % 16 = 0) ∨ (op % 8 = 1 ∧ op % 16 = 1) ∨ (op % 8 = 2 ∧ op % 16 = 2) ∨ (op % 8 = 3 ∧ op % 16 = 3) ∨ (op % 8 = 4 ∧ op % 16 = 4) ∨ (op % 8 = 5 ∧ op % 16 = 5) ∨ (op % 8 = 6 ∧ op % 16 = 6) ∨ (op % 8 = 7 ∧ op % 16 = 7) ∨ (op % 8 = 0 ∧ op % 16 = 8) ∨ (op % 8 = 1 ∧ op % 16 = 9) ∨ (op % 8 = 2 ∧ op % 16 = 10) ∨ (op % 8 = 3 ∧ op % 16 = 11) ∨ (op % 8 = 4 ∧ op % 16 = 12) ∨ (op % 8 = 5 ∧ op % 16 = 13) ∨ (op % 8 = 6 ∧ op % 16 = 14) ∨ (op % 8 = 7 ∧ op % 16 = 15) := by
    have g : op % 16 = 0 ∨ op % 16 = 1 ∨ op % 16 = 2 ∨ op % 16 = 3 ∨ op % 16 = 4 ∨ op % 16 = 5 ∨ op % 16 = 6 ∨ op % 16 = 7 ∨ 8 ≤ op % 16 := by omega
    have g2 : 8 ≤ op % 16 → op % 16 = 8 ∨ op % 16 = 9 ∨ op % 16 = 10 ∨ op % 16 = 11 ∨ op % 16 = 12 ∨ op % 16 = 13 ∨ op % 16 = 14 ∨ op % 16 = 15 := by clear g c8; omega
    clear c8
    rcases g with g | g | g | g | g | g | g | g | g
    iterate 8
      · have e : op % 8 = op % 16 := by omega
        simp [e, g]
    · have e : op % 8 = op % 16 - 8 := by omega
      rcases g2 g with k | k | k | k | k | k | k | k <;> simp [e, k]
  have H8 : Hid _ := c8
  have H16 : Hid _ := c16
  clear c8 c16
  by_cases q01 : q = 0 ∨ q = 1
  · have ha : bits .andNot .i64 op 7 = op - op % 8 := by
      have e := andNot7 ⟨op.toNat, by omega⟩
      simp only [Int.toNat_of_nonneg h0] at e
      exact e
    have cF := from00_ok w op (op - op % 8) (by omega) ha (by omega) (by omega)
    have hVe : V = look (L00 (op - op % 8)) op := by rw [HV.out]; unfold rowOf; rw [hq, if_pos q01]
    have nd := nd00 (op - op % 8) (by omega)
    have HE : Hid _ := hVe
    have HN : Hid _ := nd
    clear hr hc ha hVe nd
    rcases q01 with rfl | rfl
    all_goals
      go_enter Tryz.func10, Tryz.ntmps10
      go_wp2_with fail
      refine cF.mono ?_; rintro e w1 ⟨rfl, L, hL, hn, hw⟩; subst hw
      have hlk := look_md w L op
      rw [look_same hL hn HN.out op, ← HE.out] at hlk
      have hk := md_kp w L
      clear hL hn cF
      go_wp2
      go_ret
      exact ⟨rfl, hk⟩
  by_cases q23 : q = 2 ∨ q = 3
  · have cF := from40_ok w op (op % 8) (op % 16) H16.out hr (by omega) (by omega) hc (by omega) (by omega)
    have hVe : V = look (L40 (op % 8) (op % 16)) op := by rw [HV.out]; unfold rowOf; rw [hq, if_neg q01, if_pos q23]
    have nd := nd40 (op % 8) (op % 16) H16.out
    have HE : Hid _ := hVe
    have HN : Hid _ := nd
    clear hr hc hVe nd q01
    rcases q23 with rfl | rfl
    all_goals
      go_enter Tryz.func10, Tryz.ntmps10
      go_wp2_with fail
      refine cF.mono ?_; rintro e w1 ⟨rfl, L, hL, hn, hw⟩; subst hw
      have hlk := look_md w L op
      rw [look_same hL hn HN.out op, ← HE.out] at hlk
      have hk := md_kp w L
      clear hL hn cF
      go_wp2
      go_ret
      exact ⟨rfl, hk⟩
  by_cases q4 : q = 4
  · subst q4
    have cF := from80_ok w op (op % 8) H8.out hr (by omega) (by omega)
    have hVe : V = if op = 144 then some 95 else look (L80 (op % 8)) op := by rw [HV.out]; unfold rowOf; rw [hq, if_neg q01, if_neg q23, if_pos rfl]
    have nd := nd80 (op % 8) H8.out
    have HE : Hid _ := hVe
    have HN : Hid _ := nd
    clear hr hc hVe nd q01 q23
    go_enter Tryz.func10, Tryz.ntmps10
    go_wp2_with fail
    refine cF.mono ?_; rintro e w1 ⟨rfl, L, hL, hn, hw⟩; subst hw
    have hlk := look_md w (upd9 L) op
    rw [look_upd9 hn, look_same hL hn HN.out op, ← HE.out] at hlk
    have hk := md_kp w (upd9 L)
    clear hL hn cF
    go_wp2
    go_ret
    exact ⟨rfl, hk⟩
  by_cases q5 : q = 5
  · subst q5
    have cF := fromA0_ok w op (op % 8) H8.out hr (by omega) (by omega)
    have hVe : V = look (LA0 (op % 8)) op := by rw [HV.out]; unfold rowOf; rw [hq, if_neg q01, if_neg q23, if_neg q4, if_pos rfl]
    have nd := ndA0 (op % 8) H8.out
    have HE : Hid _ := hVe
    have HN : Hid _ := nd
    clear hr hc hVe nd q01 q23 q4
    go_enter Tryz.func10, Tryz.ntmps10
    go_wp2_with fail
    refine cF.mono ?_; rintro e w1 ⟨rfl, L, hL, hn, hw⟩; subst hw
    have hlk := look_md w L op
    rw [look_same hL hn HN.out op, ← HE.out] at hlk
    have hk := md_kp w L
    clear hL hn cF
    go_wp2
    go_ret
    exact ⟨rfl, hk⟩
  by_cases q6 : q = 6
  · subst q6
    have cF := fromC0_ok w
    have hVe : V = look LC0 op := by rw [HV.out]; unfold rowOf; rw [hq, if_neg q01, if_neg q23, if_neg q4, if_neg q5, if_pos rfl]
    have HE : Hid _ := hVe
    clear hr hc hVe q01 q23 q4 q5
    go_enter Tryz.func10, Tryz.ntmps10
    go_wp2_with fail
    refine cF.mono ?_; rintro e w1 ⟨rfl, hw⟩; subst hw
    have hlk := look_mp w LC0 op
    rw [← HE.out] at hlk
    have hk := mp_kp w LC0
    clear cF
    go_wp2
    go_ret
    exact ⟨rfl, hk⟩
  by_cases q7 : q = 7
  · subst q7
    have cF := fromE0_ok w
    have hVe : V = look LE0 op := by rw [HV.out]; unfold rowOf; rw [hq, if_neg q01, if_neg q23, if_neg q4, if_neg q5, if_neg q6, if_pos rfl]
    have HE : Hid _ := hVe
    clear hr hc hVe q01 q23 q4 q5 q6
    go_enter Tryz.func10, Tryz.ntmps10
    go_wp2_with fail
    refine cF.mono ?_; rintro e w1 ⟨rfl, hw⟩; subst hw
    have hlk := look_mp w LE0 op
    rw [← HE.out] at hlk
    have hk := mp_kp w LE0
    clear cF
    go_wp2
    go_ret
    exact ⟨rfl, hk⟩
  · have cF := from0F_ok w op (op % 8) (op % 16) H16.out hr (by omega) (by omega) hc (by omega) (by omega)
    have hVe : V = look (L0F (op % 8) (op % 16)) op := by rw [HV.out]; unfold rowOf; rw [hq, if_neg q01, if_neg q23, if_neg q4, if_neg q5, if_neg q6, if_neg q7]
    have nd := nd0F (op % 8) (op % 16) H16.out
    have HE : Hid _ := hVe
    have HN : Hid _ := nd
    have n0 : (q == 0) = false := by simp; omega
    have n1 : (q == 1) = false := by simp; omega
    have n2 : (q == 2) = false := by simp; omega
    have n3 : (q == 3) = false := by simp; omega
    have n4 : (q == 4) = false := by simp; omega
    have n5 : (q == 5) = false := by simp; omega
    have n6 : (q == 6) = false := by simp; omega
    have n7 : (q == 7) = false := by simp; omega
    clear hr hc hVe nd q01 q23
    go_enter Tryz.func10, Tryz.ntmps10
    go_wp2_with fail
    refine cF.mono ?_; rintro e w1 ⟨rfl, L, hL, hn, hw⟩; subst hw
    have hlk := look_md w L op
    rw [look_same hL hn HN.out op, ← HE.out] at hlk
    have hk := md_kp w L
    clear hL hn cF
    go_wp2
    go_ret
    exact ⟨rfl, hk⟩
end Go.Proofs.YtbfccfhjgopnbaaGreat
