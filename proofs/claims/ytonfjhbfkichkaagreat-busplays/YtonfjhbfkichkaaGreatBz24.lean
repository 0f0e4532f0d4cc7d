/- The bus and its devices: RcBegin. -/
import Derived.Test.YtonfjhbfkichkaaGreatBz23
namespace Go.Proofs.YtonfjhbfkichkaaGreat.Pc
open Go.ChangeShapes Go.WideShapes Go.ChangeAt Go.RowKit
set_option linter.unusedVariables false
set_option maxRecDepth 20000
theorem appK (base : Nat) {w : World} (hb : base ≤ w.heap.size) {v : Value} {l : List Int} (hv : OwnN w base v l) (ad : Addr) {m : Nat} (c : Nat) {g : Nat → Int} (hB : NumAt w (some ad) m g) (hs : l.length + m ≤ 1000) :
  ∃ v' w', (Builtin.append_ #[101, 101] 101 #[v, .slice (some ad) m c]).run Tryz.prog w = .ok v' w' ∧ OwnN w' base v' (l ++ rngN m g) ∧ Kp (fun k => base ≤ k) w w' := by
 have hlen : (rngN m g).length = m := by simp [rngN]
 obtain ⟨v', w', hr, h2, h3, h4, h5⟩ := run_append_own_at (P := Tryz.prog) w base 101 101 3 _ (.int .i64 0) 1 8 Tryz.underlying101 (show Tryz.prog.info? 3 = some _ from Tryz.type3) (by kernel_rfl) (by kernel_rfl) (by kernel_rfl) (by kernel_rfl) (by decide)
  v l.length (l.map (Value.int .i64)) hv ad m c ((rngN m g).map (Value.int .i64)) (by simp [hlen]) (by
   intro j u hu
   rw [List.getElem?_map] at hu
   obtain ⟨x, hx, rfl⟩ := Option.map_eq_some_iff.1 hu
   have hj : j < m := by have := (List.getElem?_eq_some_iff.1 hx).1; omega
   obtain ⟨b, o, e, _, hc⟩ := hB j hj
   injection e with e
   subst e
   rw [Addr.add_mid, hc]
   have : x = g j := by
    unfold rngN at hx
    rw [List.getElem?_map, List.getElem?_range hj] at hx
    simpa using hx.symm
   rw [this]) (by simp [Value.oneCell']) (by unfold maxLen; omega) (by omega) hb
 refine ⟨v', w', hr, ?_, ⟨h3.os, h3.tape, h3.output, h3.size, fun k hk hs => h3.block k hk (fun e => hs ?_)⟩⟩
 ·unfold OwnN
  rw [List.length_append, hlen, List.map_append]
  exact h2
 ·rcases hv.2 with ⟨rfl, _⟩ | ⟨g, cap, cur, rfl, hb, r⟩
  ·cases e
  ·simp [Value.ownBlock] at e; omega
theorem OwnN.kept {w w' : World} {base : Nat} {v : Value} {l : List Int} {S : Nat → Prop} (h : OwnN w base v l) (k : Kp S w w') (hS : ∀ g, base ≤ g → ¬ S g) : OwnN w' base v l := by
 refine ⟨h.1, ?_⟩
 rcases h.2 with h2 | ⟨g, cap, cur, hv, hb, hg, r⟩
 ·exact .inl h2
 ·exact .inr ⟨g, cap, cur, hv, hb, heap_kept hg k (hS g hb), r⟩
theorem one_num (w : World) (x : Int) : NumAt (w.alloc (.cells #[.int .i64 x] 3)) (some ⟨w.heap.size, 0, none⟩) 1 (fun _ => x) := fun j hj => by
 obtain rfl : j = 0 := by omega
 exact ⟨w.heap.size, 0, rfl, by simp, new_cell w _ _⟩
structure BegS (w W : World) (r : RC) (f0 f1 f2 : Nat → Bool) (p : Option Addr) (n c : Nat) (l : List Int) : Prop where
 hC : CAt W w.heap.size ⟨f0, f1, f2, r.up, r.base, false, false, p, n, c⟩
 hZ : ZAt W (w.heap.size + 1)
 hO : OwnN W (w.heap.size + 2) (.slice p n c) l
 hK : Kp noB w W
theorem BegS.app {w W : World} {r : RC} {f0 f1 f2 : Nat → Bool} {p : Option Addr} {n c : Nat} {l : List Int} (h : BegS w W r f0 f1 f2 p n c l) (x : Int) (hl : l.length ≤ 10) : ∃ p' c' w3, (Builtin.append_ #[101, 101] 101 #[.slice p n c, .slice (some ⟨W.heap.size, 0, none⟩) 1 1]).run Tryz.prog (W.alloc (.cells #[.int .i64 x] 3)) = .ok (.slice p' (l.length + 1) c') w3 ∧ w3.cell? ⟨w.heap.size, 35, none⟩ = some (.slice p n c) ∧ w3.frozen? ⟨w.heap.size, 35, none⟩ = false ∧ BegS w (w3.setCell ⟨w.heap.size, 35, none⟩ (.slice p' (l.length + 1) c')) r f0 f1 f2 p' (l.length + 1) c' (l ++ [x]) := by
 have hz := heap_lt h.hZ
 have ka : Kp noB W (W.alloc (.cells #[.int .i64 x] 3)) := Kp.alloc _ _ _
 obtain ⟨v', w3, hr, hown, hk⟩ := appK (w.heap.size + 2) (by have := ka.size; omega) (h.hO.kept ka (fun _ _ f => f)) ⟨W.heap.size, 0, none⟩ 1 (one_num W x) (by omega)
 have el : l ++ rngN 1 (fun _ => x) = l ++ [x] := rfl
 rw [el] at hown
 have hown' := hown
 obtain ⟨p', c', e, _⟩ := hown.wn
 rw [List.length_append, List.length_singleton] at e
 subst e
 have hC2 : CAt w3 w.heap.size ⟨f0, f1, f2, r.up, r.base, false, false, p, n, c⟩ := (h.hC.kept ka id).kept hk (by omega)
 have hZ2 : ZAt w3 (w.heap.size + 1) := (h.hZ.kept ka id).kept hk (by omega)
 have k2 : Kp noB w w3 := (h.hK.trans ka).over hk (fun j hj f => by omega)
 refine ⟨p', c', w3, hr, hC2.cell rfl, hC2.fz 35, hC2.set (set_want _ _ _ _), hZ2.kept (kpB _ _ _ _) (by show ¬ w.heap.size + 1 = w.heap.size; omega), hown'.kept (kpB _ _ _ _) (fun g hg f => ?_), k2.new (Nat.le_refl _) _⟩
 have : g = w.heap.size := f
 omega
theorem BegS.fin {w W : World} {r : RC} {f0 f1 f2 : Nat → Bool} {p : Option Addr} {n c : Nat} {l : List Int} (h : BegS w W r f0 f1 f2 p n c l) (hn : n = l.length) : CAt (W.setRow (w.heap.size + 1) (chV ⟨f0, f1, f2, r.up, r.base, false, false, p, n, c⟩)) (w.heap.size + 1) ⟨f0, f1, f2, r.up, r.base, false, false, p, n, c⟩ ∧ Wn (W.setRow (w.heap.size + 1) (chV ⟨f0, f1, f2, r.up, r.base, false, false, p, n, c⟩)) w.heap.size p n c l ∧ Kp noB w (W.setRow (w.heap.size + 1) (chV ⟨f0, f1, f2, r.up, r.base, false, false, p, n, c⟩)) := by
 refine ⟨h.hZ.got _, ?_, h.hK.newRow (by omega) _⟩
 obtain ⟨p', c', e, hw⟩ := h.hO.wn
 injection e with e1 e2 e3
 subst e1; subst e2; subst e3
 exact (hw.kept (Kp.setRow (S := isB (w.heap.size + 1)) W rfl _) (fun g hg f => by have : g = w.heap.size + 1 := f; omega)).mono (by omega)
theorem upd8_false (f : Nat → Bool) : ∀ k, k < 8 → (upd (upd (upd (upd (upd (upd (upd (upd f 0 false) 1 false) 2 false) 3 false) 4 false) 5 false) 6 false) 7 false) k = false := fun k hk => by
 rcases (by omega : k = 0 ∨ k = 1 ∨ k = 2 ∨ k = 3 ∨ k = 4 ∨ k = 5 ∨ k = 6 ∨ k = 7) with rfl | rfl | rfl | rfl | rfl | rfl | rfl | rfl <;> rfl
set_option maxRecDepth 20000 in
set_option maxHeartbeats 4000000 in
theorem rbeg_10 (w : World) (r : RC) (v : Int) (hv : By v) (b4 : tb v 4 = true) (b1 : tb v 1 = true) (b0 : tb v 0 = false) : Calls Tryz.prog 158 #[.agg (chV r), .int .u8 v] w fun e w' => ∃ f0 f1 f2 p c, e = .returned (.agg (chV ⟨f0, f1, f2, r.up, r.base, false, false, p, 1, c⟩)) ∧ (∀ k, k < 8 → f0 k = false ∧ f1 k = false ∧ f2 k = false) ∧ Wn w' w.heap.size p 1 c [1] ∧ Kp noB w w' := by
 obtain ⟨T, nI, Z, fs, ps, V⟩ := vlC
 obtain ⟨vl, vs, va, vb⟩ := V.ops
 have v1 := V.agg
 have v2 := V.size
 have v3 := V.zero
 have v4 := V.under
 have v5 := V.map
 have v6 := V.zs
 have cs : ∀ r : RC, (chV r).size = nI := fun r => by rw [V.s]; rfl
 have HV : Hid (VlC T nI Z fs ps) := V
 have HBt : Hid (∀ (w : World) (n : Nat), n < 8 → _) := fun w n hn => bit_any w v hv n hn
 have c0 : ∀ (r : RC), (chV r)[0]? = some (.bool (r.asks 0)) := fun r => rfl
 have c1 : ∀ (r : RC), (chV r)[1]? = some (.bool (r.asks 1)) := fun r => rfl
 have c2 : ∀ (r : RC), (chV r)[2]? = some (.bool (r.asks 2)) := fun r => rfl
 have c3 : ∀ (r : RC), (chV r)[3]? = some (.bool (r.asks 3)) := fun r => rfl
 have c4 : ∀ (r : RC), (chV r)[4]? = some (.bool (r.asks 4)) := fun r => rfl
 have c5 : ∀ (r : RC), (chV r)[5]? = some (.bool (r.asks 5)) := fun r => rfl
 have c6 : ∀ (r : RC), (chV r)[6]? = some (.bool (r.asks 6)) := fun r => rfl
 have c7 : ∀ (r : RC), (chV r)[7]? = some (.bool (r.asks 7)) := fun r => rfl
 have c8 : ∀ (r : RC), (chV r)[8]? = some (.bool (r.srv 0)) := fun r => rfl
 have c9 : ∀ (r : RC), (chV r)[9]? = some (.bool (r.srv 1)) := fun r => rfl
 have c10 : ∀ (r : RC), (chV r)[10]? = some (.bool (r.srv 2)) := fun r => rfl
 have c11 : ∀ (r : RC), (chV r)[11]? = some (.bool (r.srv 3)) := fun r => rfl
 have c12 : ∀ (r : RC), (chV r)[12]? = some (.bool (r.srv 4)) := fun r => rfl
 have c13 : ∀ (r : RC), (chV r)[13]? = some (.bool (r.srv 5)) := fun r => rfl
 have c14 : ∀ (r : RC), (chV r)[14]? = some (.bool (r.srv 6)) := fun r => rfl
 have c15 : ∀ (r : RC), (chV r)[15]? = some (.bool (r.srv 7)) := fun r => rfl
 have c16 : ∀ (r : RC), (chV r)[16]? = some (.bool (r.msk 0)) := fun r => rfl
 have c17 : ∀ (r : RC), (chV r)[17]? = some (.bool (r.msk 1)) := fun r => rfl
 have c18 : ∀ (r : RC), (chV r)[18]? = some (.bool (r.msk 2)) := fun r => rfl
 have c19 : ∀ (r : RC), (chV r)[19]? = some (.bool (r.msk 3)) := fun r => rfl
 have c20 : ∀ (r : RC), (chV r)[20]? = some (.bool (r.msk 4)) := fun r => rfl
 have c21 : ∀ (r : RC), (chV r)[21]? = some (.bool (r.msk 5)) := fun r => rfl
 have c22 : ∀ (r : RC), (chV r)[22]? = some (.bool (r.msk 6)) := fun r => rfl
 have c23 : ∀ (r : RC), (chV r)[23]? = some (.bool (r.msk 7)) := fun r => rfl
 have s0 : ∀ (r : RC) b, (chV r).setIfInBounds 0 (.bool b) = chV { r with asks := upd r.asks 0 b } := fun r b => rfl
 have s1 : ∀ (r : RC) b, (chV r).setIfInBounds 1 (.bool b) = chV { r with asks := upd r.asks 1 b } := fun r b => rfl
 have s2 : ∀ (r : RC) b, (chV r).setIfInBounds 2 (.bool b) = chV { r with asks := upd r.asks 2 b } := fun r b => rfl
 have s3 : ∀ (r : RC) b, (chV r).setIfInBounds 3 (.bool b) = chV { r with asks := upd r.asks 3 b } := fun r b => rfl
 have s4 : ∀ (r : RC) b, (chV r).setIfInBounds 4 (.bool b) = chV { r with asks := upd r.asks 4 b } := fun r b => rfl
 have s5 : ∀ (r : RC) b, (chV r).setIfInBounds 5 (.bool b) = chV { r with asks := upd r.asks 5 b } := fun r b => rfl
 have s6 : ∀ (r : RC) b, (chV r).setIfInBounds 6 (.bool b) = chV { r with asks := upd r.asks 6 b } := fun r b => rfl
 have s7 : ∀ (r : RC) b, (chV r).setIfInBounds 7 (.bool b) = chV { r with asks := upd r.asks 7 b } := fun r b => rfl
 have s8 : ∀ (r : RC) b, (chV r).setIfInBounds 8 (.bool b) = chV { r with srv := upd r.srv 0 b } := fun r b => rfl
 have s9 : ∀ (r : RC) b, (chV r).setIfInBounds 9 (.bool b) = chV { r with srv := upd r.srv 1 b } := fun r b => rfl
 have s10 : ∀ (r : RC) b, (chV r).setIfInBounds 10 (.bool b) = chV { r with srv := upd r.srv 2 b } := fun r b => rfl
 have s11 : ∀ (r : RC) b, (chV r).setIfInBounds 11 (.bool b) = chV { r with srv := upd r.srv 3 b } := fun r b => rfl
 have s12 : ∀ (r : RC) b, (chV r).setIfInBounds 12 (.bool b) = chV { r with srv := upd r.srv 4 b } := fun r b => rfl
 have s13 : ∀ (r : RC) b, (chV r).setIfInBounds 13 (.bool b) = chV { r with srv := upd r.srv 5 b } := fun r b => rfl
 have s14 : ∀ (r : RC) b, (chV r).setIfInBounds 14 (.bool b) = chV { r with srv := upd r.srv 6 b } := fun r b => rfl
 have s15 : ∀ (r : RC) b, (chV r).setIfInBounds 15 (.bool b) = chV { r with srv := upd r.srv 7 b } := fun r b => rfl
 have s16 : ∀ (r : RC) b, (chV r).setIfInBounds 16 (.bool b) = chV { r with msk := upd r.msk 0 b } := fun r b => rfl
 have s17 : ∀ (r : RC) b, (chV r).setIfInBounds 17 (.bool b) = chV { r with msk := upd r.msk 1 b } := fun r b => rfl
 have s18 : ∀ (r : RC) b, (chV r).setIfInBounds 18 (.bool b) = chV { r with msk := upd r.msk 2 b } := fun r b => rfl
 have s19 : ∀ (r : RC) b, (chV r).setIfInBounds 19 (.bool b) = chV { r with msk := upd r.msk 3 b } := fun r b => rfl
 have s20 : ∀ (r : RC) b, (chV r).setIfInBounds 20 (.bool b) = chV { r with msk := upd r.msk 4 b } := fun r b => rfl
 have s21 : ∀ (r : RC) b, (chV r).setIfInBounds 21 (.bool b) = chV { r with msk := upd r.msk 5 b } := fun r b => rfl
 have s22 : ∀ (r : RC) b, (chV r).setIfInBounds 22 (.bool b) = chV { r with msk := upd r.msk 6 b } := fun r b => rfl
 have s23 : ∀ (r : RC) b, (chV r).setIfInBounds 23 (.bool b) = chV { r with msk := upd r.msk 7 b } := fun r b => rfl
 have s33 := set_told
 have s34 := set_ends
 have s35 := set_want
 have c33 : ∀ (r : RC), (chV r)[33]? = some (.bool r.told) := fun r => rfl
 have c34 : ∀ (r : RC), (chV r)[34]? = some (.bool r.ends) := fun r => rfl
 have c35 : ∀ (r : RC), (chV r)[35]? = some (.slice r.wp r.wl r.wc) := fun r => rfl
 clear V hv
 go_enter Tryz.func158, Tryz.ntmps158
 simp only [vl, vs, va, vb]
 clear vl vs va vb
 go_wp2_with fail
 refine Calls.mono (HBt.out _ 4 (by decide)) ?_; rintro e x1 ⟨he, hw⟩; replace hw := hw.symm; subst hw
 rw [b4] at he; subst he
 go_wp2_with fail
 have hB : Hid (BegS w ((((w.alloc (.cells (chV (⟨(upd (upd (upd (upd (upd (upd (upd (upd r.asks 0 false) 1 false) 2 false) 3 false) 4 false) 5 false) 6 false) 7 false), (upd (upd (upd (upd (upd (upd (upd (upd r.srv 0 false) 1 false) 2 false) 3 false) 4 false) 5 false) 6 false) 7 false), (upd (upd (upd (upd (upd (upd (upd (upd r.msk 0 false) 1 false) 2 false) 3 false) 4 false) 5 false) 6 false) 7 false), r.up, r.base, false, false, some ⟨w.heap.size + 1 + 1 + 1, 0, none⟩, 1, 1⟩ : RC)) T)).alloc (.cells Z T)).alloc (.cells #[.bool false, .bool false, .bool false, .bool false, .bool false, .bool false, .bool false, .bool false] 137)).alloc (.cells #[.int .i64 1] 3)) r (upd (upd (upd (upd (upd (upd (upd (upd r.asks 0 false) 1 false) 2 false) 3 false) 4 false) 5 false) 6 false) 7 false) (upd (upd (upd (upd (upd (upd (upd (upd r.srv 0 false) 1 false) 2 false) 3 false) 4 false) 5 false) 6 false) 7 false) (upd (upd (upd (upd (upd (upd (upd (upd r.msk 0 false) 1 false) 2 false) 3 false) 4 false) 5 false) 6 false) 7 false) (some ⟨w.heap.size + 1 + 1 + 1, 0, none⟩) 1 1 [1]) := by
  have e : ∀ o1 o2 o3 : Obj, (((w.alloc o1).alloc o2).alloc o3).heap.size = w.heap.size + 1 + 1 + 1 := fun _ _ _ => by simp
  refine ⟨(((HV.out.at _ w).kept (Kp.alloc noB _ _) id).kept (Kp.alloc noB _ _) id).kept (Kp.alloc noB _ _) id, ((HV.out.zat _ w).kept (Kp.alloc noB _ _) id).kept (Kp.alloc noB _ _) id, ?_, (((Kp.alloc noB _ _).trans (Kp.alloc noB _ _)).trans (Kp.alloc noB _ _)).trans (Kp.alloc noB _ _)⟩
  have := OwnN.new (((w.alloc (.cells (chV (⟨(upd (upd (upd (upd (upd (upd (upd (upd r.asks 0 false) 1 false) 2 false) 3 false) 4 false) 5 false) 6 false) 7 false), (upd (upd (upd (upd (upd (upd (upd (upd r.srv 0 false) 1 false) 2 false) 3 false) 4 false) 5 false) 6 false) 7 false), (upd (upd (upd (upd (upd (upd (upd (upd r.msk 0 false) 1 false) 2 false) 3 false) 4 false) 5 false) 6 false) 7 false), r.up, r.base, false, false, some ⟨w.heap.size + 1 + 1 + 1, 0, none⟩, 1, 1⟩ : RC)) T)).alloc (.cells Z T)).alloc (.cells #[.bool false, .bool false, .bool false, .bool false, .bool false, .bool false, .bool false, .bool false] 137)) (w.heap.size + 2) (by rw [e]; omega) [1] (by decide)
  rw [e] at this
  exact this
 have hF : Hid (∀ k, k < 8 → (upd (upd (upd (upd (upd (upd (upd (upd r.asks 0 false) 1 false) 2 false) 3 false) 4 false) 5 false) 6 false) 7 false) k = false ∧ (upd (upd (upd (upd (upd (upd (upd (upd r.srv 0 false) 1 false) 2 false) 3 false) 4 false) 5 false) 6 false) 7 false) k = false ∧ (upd (upd (upd (upd (upd (upd (upd (upd r.msk 0 false) 1 false) 2 false) 3 false) 4 false) 5 false) 6 false) 7 false) k = false) := fun k hk => ⟨upd8_false _ k hk, upd8_false _ k hk, upd8_false _ k hk⟩
 generalize ((((w.alloc (.cells (chV (⟨(upd (upd (upd (upd (upd (upd (upd (upd r.asks 0 false) 1 false) 2 false) 3 false) 4 false) 5 false) 6 false) 7 false), (upd (upd (upd (upd (upd (upd (upd (upd r.srv 0 false) 1 false) 2 false) 3 false) 4 false) 5 false) 6 false) 7 false), (upd (upd (upd (upd (upd (upd (upd (upd r.msk 0 false) 1 false) 2 false) 3 false) 4 false) 5 false) 6 false) 7 false), r.up, r.base, false, false, some ⟨w.heap.size + 1 + 1 + 1, 0, none⟩, 1, 1⟩ : RC)) T)).alloc (.cells Z T)).alloc (.cells #[.bool false, .bool false, .bool false, .bool false, .bool false, .bool false, .bool false, .bool false] 137)).alloc (.cells #[.int .i64 1] 3)) = w2 at hB ⊢
 generalize (upd (upd (upd (upd (upd (upd (upd (upd r.asks 0 false) 1 false) 2 false) 3 false) 4 false) 5 false) 6 false) 7 false) = f0 at hB hF
 generalize (upd (upd (upd (upd (upd (upd (upd (upd r.srv 0 false) 1 false) 2 false) 3 false) 4 false) 5 false) 6 false) 7 false) = f1 at hB hF
 generalize (upd (upd (upd (upd (upd (upd (upd (upd r.msk 0 false) 1 false) 2 false) 3 false) 4 false) 5 false) 6 false) 7 false) = f2 at hB hF
 clear s0 c0 s1 c1 s2 c2 s3 c3 s4 c4 s5 c5 s6 c6 s7 c7 s8 c8 s9 c9 s10 c10 s11 c11 s12 c12 s13 c13 s14 c14 s15 c15 s16 c16 s17 c17 s18 c18 s19 c19 s20 c20 s21 c21 s22 c22 s23 c23 s33 c33 s34 c34 s35 c35
 refine Calls.mono (HBt.out _ 1 (by decide)) ?_; rintro e x1 ⟨he, hw⟩; replace hw := hw.symm; subst hw
 rw [b1] at he; subst he
 go_wp2_with fail
 refine Calls.mono (HBt.out _ 0 (by decide)) ?_; rintro e x1 ⟨he, hw⟩; replace hw := hw.symm; subst hw
 rw [b0] at he; subst he
 have L := HV.out.get hB.out.hC
 have S := hB.out.hZ.put (⟨f0, f1, f2, r.up, r.base, false, false, (some ⟨w.heap.size + 1 + 1 + 1, 0, none⟩), 1, 1⟩ : RC)
 have FF : Hid _ := hB.out.fin rfl
 go_wp2
 exact bodyPost_ret (v := .agg (chV (⟨f0, f1, f2, r.up, r.base, false, false, (some ⟨w.heap.size + 1 + 1 + 1, 0, none⟩), 1, 1⟩ : RC))) (ch_res Tryz.results158 _ _ (w.heap.size + 1) _ rfl FF.out.1) rfl ⟨f0, f1, f2, _, _, rfl, hF.out, FF.out.2.1, FF.out.2.2⟩
set_option maxRecDepth 20000 in
set_option maxHeartbeats 4000000 in
theorem rbeg_11 (w : World) (r : RC) (v : Int) (hv : By v) (b4 : tb v 4 = true) (b1 : tb v 1 = true) (b0 : tb v 0 = true) : Calls Tryz.prog 158 #[.agg (chV r), .int .u8 v] w fun e w' => ∃ f0 f1 f2 p c, e = .returned (.agg (chV ⟨f0, f1, f2, r.up, r.base, false, false, p, 2, c⟩)) ∧ (∀ k, k < 8 → f0 k = false ∧ f1 k = false ∧ f2 k = false) ∧ Wn w' w.heap.size p 2 c [1, 3] ∧ Kp noB w w' := by
 obtain ⟨T, nI, Z, fs, ps, V⟩ := vlC
 obtain ⟨vl, vs, va, vb⟩ := V.ops
 have v1 := V.agg
 have v2 := V.size
 have v3 := V.zero
 have v4 := V.under
 have v5 := V.map
 have v6 := V.zs
 have cs : ∀ r : RC, (chV r).size = nI := fun r => by rw [V.s]; rfl
 have HV : Hid (VlC T nI Z fs ps) := V
 have HBt : Hid (∀ (w : World) (n : Nat), n < 8 → _) := fun w n hn => bit_any w v hv n hn
 have c0 : ∀ (r : RC), (chV r)[0]? = some (.bool (r.asks 0)) := fun r => rfl
 have c1 : ∀ (r : RC), (chV r)[1]? = some (.bool (r.asks 1)) := fun r => rfl
 have c2 : ∀ (r : RC), (chV r)[2]? = some (.bool (r.asks 2)) := fun r => rfl
 have c3 : ∀ (r : RC), (chV r)[3]? = some (.bool (r.asks 3)) := fun r => rfl
 have c4 : ∀ (r : RC), (chV r)[4]? = some (.bool (r.asks 4)) := fun r => rfl
 have c5 : ∀ (r : RC), (chV r)[5]? = some (.bool (r.asks 5)) := fun r => rfl
 have c6 : ∀ (r : RC), (chV r)[6]? = some (.bool (r.asks 6)) := fun r => rfl
 have c7 : ∀ (r : RC), (chV r)[7]? = some (.bool (r.asks 7)) := fun r => rfl
 have c8 : ∀ (r : RC), (chV r)[8]? = some (.bool (r.srv 0)) := fun r => rfl
 have c9 : ∀ (r : RC), (chV r)[9]? = some (.bool (r.srv 1)) := fun r => rfl
 have c10 : ∀ (r : RC), (chV r)[10]? = some (.bool (r.srv 2)) := fun r => rfl
 have c11 : ∀ (r : RC), (chV r)[11]? = some (.bool (r.srv 3)) := fun r => rfl
 have c12 : ∀ (r : RC), (chV r)[12]? = some (.bool (r.srv 4)) := fun r => rfl
 have c13 : ∀ (r : RC), (chV r)[13]? = some (.bool (r.srv 5)) := fun r => rfl
 have c14 : ∀ (r : RC), (chV r)[14]? = some (.bool (r.srv 6)) := fun r => rfl
 have c15 : ∀ (r : RC), (chV r)[15]? = some (.bool (r.srv 7)) := fun r => rfl
 have c16 : ∀ (r : RC), (chV r)[16]? = some (.bool (r.msk 0)) := fun r => rfl
 have c17 : ∀ (r : RC), (chV r)[17]? = some (.bool (r.msk 1)) := fun r => rfl
 have c18 : ∀ (r : RC), (chV r)[18]? = some (.bool (r.msk 2)) := fun r => rfl
 have c19 : ∀ (r : RC), (chV r)[19]? = some (.bool (r.msk 3)) := fun r => rfl
 have c20 : ∀ (r : RC), (chV r)[20]? = some (.bool (r.msk 4)) := fun r => rfl
 have c21 : ∀ (r : RC), (chV r)[21]? = some (.bool (r.msk 5)) := fun r => rfl
 have c22 : ∀ (r : RC), (chV r)[22]? = some (.bool (r.msk 6)) := fun r => rfl
 have c23 : ∀ (r : RC), (chV r)[23]? = some (.bool (r.msk 7)) := fun r => rfl
 have s0 : ∀ (r : RC) b, (chV r).setIfInBounds 0 (.bool b) = chV { r with asks := upd r.asks 0 b } := fun r b => rfl
 have s1 : ∀ (r : RC) b, (chV r).setIfInBounds 1 (.bool b) = chV { r with asks := upd r.asks 1 b } := fun r b => rfl
 have s2 : ∀ (r : RC) b, (chV r).setIfInBounds 2 (.bool b) = chV { r with asks := upd r.asks 2 b } := fun r b => rfl
 have s3 : ∀ (r : RC) b, (chV r).setIfInBounds 3 (.bool b) = chV { r with asks := upd r.asks 3 b } := fun r b => rfl
 have s4 : ∀ (r : RC) b, (chV r).setIfInBounds 4 (.bool b) = chV { r with asks := upd r.asks 4 b } := fun r b => rfl
 have s5 : ∀ (r : RC) b, (chV r).setIfInBounds 5 (.bool b) = chV { r with asks := upd r.asks 5 b } := fun r b => rfl
 have s6 : ∀ (r : RC) b, (chV r).setIfInBounds 6 (.bool b) = chV { r with asks := upd r.asks 6 b } := fun r b => rfl
 have s7 : ∀ (r : RC) b, (chV r).setIfInBounds 7 (.bool b) = chV { r with asks := upd r.asks 7 b } := fun r b => rfl
 have s8 : ∀ (r : RC) b, (chV r).setIfInBounds 8 (.bool b) = chV { r with srv := upd r.srv 0 b } := fun r b => rfl
 have s9 : ∀ (r : RC) b, (chV r).setIfInBounds 9 (.bool b) = chV { r with srv := upd r.srv 1 b } := fun r b => rfl
 have s10 : ∀ (r : RC) b, (chV r).setIfInBounds 10 (.bool b) = chV { r with srv := upd r.srv 2 b } := fun r b => rfl
 have s11 : ∀ (r : RC) b, (chV r).setIfInBounds 11 (.bool b) = chV { r with srv := upd r.srv 3 b } := fun r b => rfl
 have s12 : ∀ (r : RC) b, (chV r).setIfInBounds 12 (.bool b) = chV { r with srv := upd r.srv 4 b } := fun r b => rfl
 have s13 : ∀ (r : RC) b, (chV r).setIfInBounds 13 (.bool b) = chV { r with srv := upd r.srv 5 b } := fun r b => rfl
 have s14 : ∀ (r : RC) b, (chV r).setIfInBounds 14 (.bool b) = chV { r with srv := upd r.srv 6 b } := fun r b => rfl
 have s15 : ∀ (r : RC) b, (chV r).setIfInBounds 15 (.bool b) = chV { r with srv := upd r.srv 7 b } := fun r b => rfl
 have s16 : ∀ (r : RC) b, (chV r).setIfInBounds 16 (.bool b) = chV { r with msk := upd r.msk 0 b } := fun r b => rfl
 have s17 : ∀ (r : RC) b, (chV r).setIfInBounds 17 (.bool b) = chV { r with msk := upd r.msk 1 b } := fun r b => rfl
 have s18 : ∀ (r : RC) b, (chV r).setIfInBounds 18 (.bool b) = chV { r with msk := upd r.msk 2 b } := fun r b => rfl
 have s19 : ∀ (r : RC) b, (chV r).setIfInBounds 19 (.bool b) = chV { r with msk := upd r.msk 3 b } := fun r b => rfl
 have s20 : ∀ (r : RC) b, (chV r).setIfInBounds 20 (.bool b) = chV { r with msk := upd r.msk 4 b } := fun r b => rfl
 have s21 : ∀ (r : RC) b, (chV r).setIfInBounds 21 (.bool b) = chV { r with msk := upd r.msk 5 b } := fun r b => rfl
 have s22 : ∀ (r : RC) b, (chV r).setIfInBounds 22 (.bool b) = chV { r with msk := upd r.msk 6 b } := fun r b => rfl
 have s23 : ∀ (r : RC) b, (chV r).setIfInBounds 23 (.bool b) = chV { r with msk := upd r.msk 7 b } := fun r b => rfl
 have s33 := set_told
 have s34 := set_ends
 have s35 := set_want
 have c33 : ∀ (r : RC), (chV r)[33]? = some (.bool r.told) := fun r => rfl
 have c34 : ∀ (r : RC), (chV r)[34]? = some (.bool r.ends) := fun r => rfl
 have c35 : ∀ (r : RC), (chV r)[35]? = some (.slice r.wp r.wl r.wc) := fun r => rfl
 clear V hv
 go_enter Tryz.func158, Tryz.ntmps158
 simp only [vl, vs, va, vb]
 clear vl vs va vb
 go_wp2_with fail
 refine Calls.mono (HBt.out _ 4 (by decide)) ?_; rintro e x1 ⟨he, hw⟩; replace hw := hw.symm; subst hw
 rw [b4] at he; subst he
 go_wp2_with fail
 have hB : Hid (BegS w ((((w.alloc (.cells (chV (⟨(upd (upd (upd (upd (upd (upd (upd (upd r.asks 0 false) 1 false) 2 false) 3 false) 4 false) 5 false) 6 false) 7 false), (upd (upd (upd (upd (upd (upd (upd (upd r.srv 0 false) 1 false) 2 false) 3 false) 4 false) 5 false) 6 false) 7 false), (upd (upd (upd (upd (upd (upd (upd (upd r.msk 0 false) 1 false) 2 false) 3 false) 4 false) 5 false) 6 false) 7 false), r.up, r.base, false, false, some ⟨w.heap.size + 1 + 1 + 1, 0, none⟩, 1, 1⟩ : RC)) T)).alloc (.cells Z T)).alloc (.cells #[.bool false, .bool false, .bool false, .bool false, .bool false, .bool false, .bool false, .bool false] 137)).alloc (.cells #[.int .i64 1] 3)) r (upd (upd (upd (upd (upd (upd (upd (upd r.asks 0 false) 1 false) 2 false) 3 false) 4 false) 5 false) 6 false) 7 false) (upd (upd (upd (upd (upd (upd (upd (upd r.srv 0 false) 1 false) 2 false) 3 false) 4 false) 5 false) 6 false) 7 false) (upd (upd (upd (upd (upd (upd (upd (upd r.msk 0 false) 1 false) 2 false) 3 false) 4 false) 5 false) 6 false) 7 false) (some ⟨w.heap.size + 1 + 1 + 1, 0, none⟩) 1 1 [1]) := by
  have e : ∀ o1 o2 o3 : Obj, (((w.alloc o1).alloc o2).alloc o3).heap.size = w.heap.size + 1 + 1 + 1 := fun _ _ _ => by simp
  refine ⟨(((HV.out.at _ w).kept (Kp.alloc noB _ _) id).kept (Kp.alloc noB _ _) id).kept (Kp.alloc noB _ _) id, ((HV.out.zat _ w).kept (Kp.alloc noB _ _) id).kept (Kp.alloc noB _ _) id, ?_, (((Kp.alloc noB _ _).trans (Kp.alloc noB _ _)).trans (Kp.alloc noB _ _)).trans (Kp.alloc noB _ _)⟩
  have := OwnN.new (((w.alloc (.cells (chV (⟨(upd (upd (upd (upd (upd (upd (upd (upd r.asks 0 false) 1 false) 2 false) 3 false) 4 false) 5 false) 6 false) 7 false), (upd (upd (upd (upd (upd (upd (upd (upd r.srv 0 false) 1 false) 2 false) 3 false) 4 false) 5 false) 6 false) 7 false), (upd (upd (upd (upd (upd (upd (upd (upd r.msk 0 false) 1 false) 2 false) 3 false) 4 false) 5 false) 6 false) 7 false), r.up, r.base, false, false, some ⟨w.heap.size + 1 + 1 + 1, 0, none⟩, 1, 1⟩ : RC)) T)).alloc (.cells Z T)).alloc (.cells #[.bool false, .bool false, .bool false, .bool false, .bool false, .bool false, .bool false, .bool false] 137)) (w.heap.size + 2) (by rw [e]; omega) [1] (by decide)
  rw [e] at this
  exact this
 have hF : Hid (∀ k, k < 8 → (upd (upd (upd (upd (upd (upd (upd (upd r.asks 0 false) 1 false) 2 false) 3 false) 4 false) 5 false) 6 false) 7 false) k = false ∧ (upd (upd (upd (upd (upd (upd (upd (upd r.srv 0 false) 1 false) 2 false) 3 false) 4 false) 5 false) 6 false) 7 false) k = false ∧ (upd (upd (upd (upd (upd (upd (upd (upd r.msk 0 false) 1 false) 2 false) 3 false) 4 false) 5 false) 6 false) 7 false) k = false) := fun k hk => ⟨upd8_false _ k hk, upd8_false _ k hk, upd8_false _ k hk⟩
 generalize ((((w.alloc (.cells (chV (⟨(upd (upd (upd (upd (upd (upd (upd (upd r.asks 0 false) 1 false) 2 false) 3 false) 4 false) 5 false) 6 false) 7 false), (upd (upd (upd (upd (upd (upd (upd (upd r.srv 0 false) 1 false) 2 false) 3 false) 4 false) 5 false) 6 false) 7 false), (upd (upd (upd (upd (upd (upd (upd (upd r.msk 0 false) 1 false) 2 false) 3 false) 4 false) 5 false) 6 false) 7 false), r.up, r.base, false, false, some ⟨w.heap.size + 1 + 1 + 1, 0, none⟩, 1, 1⟩ : RC)) T)).alloc (.cells Z T)).alloc (.cells #[.bool false, .bool false, .bool false, .bool false, .bool false, .bool false, .bool false, .bool false] 137)).alloc (.cells #[.int .i64 1] 3)) = w2 at hB ⊢
 generalize (upd (upd (upd (upd (upd (upd (upd (upd r.asks 0 false) 1 false) 2 false) 3 false) 4 false) 5 false) 6 false) 7 false) = f0 at hB hF
 generalize (upd (upd (upd (upd (upd (upd (upd (upd r.srv 0 false) 1 false) 2 false) 3 false) 4 false) 5 false) 6 false) 7 false) = f1 at hB hF
 generalize (upd (upd (upd (upd (upd (upd (upd (upd r.msk 0 false) 1 false) 2 false) 3 false) 4 false) 5 false) 6 false) 7 false) = f2 at hB hF
 clear s0 c0 s1 c1 s2 c2 s3 c3 s4 c4 s5 c5 s6 c6 s7 c7 s8 c8 s9 c9 s10 c10 s11 c11 s12 c12 s13 c13 s14 c14 s15 c15 s16 c16 s17 c17 s18 c18 s19 c19 s20 c20 s21 c21 s22 c22 s23 c23 s33 c33 s34 c34 s35 c35
 refine Calls.mono (HBt.out _ 1 (by decide)) ?_; rintro e x1 ⟨he, hw⟩; replace hw := hw.symm; subst hw
 rw [b1] at he; subst he
 go_wp2_with fail
 refine Calls.mono (HBt.out _ 0 (by decide)) ?_; rintro e x1 ⟨he, hw⟩; replace hw := hw.symm; subst hw
 rw [b0] at he; subst he
 have hx2 := hB.out.app 3 (by decide)
 simp only [List.length_cons, List.length_nil, List.cons_append, List.nil_append, Nat.reduceAdd] at hx2
 obtain ⟨p2, c2, u2, hr2, d2, z2, hB2⟩ := hx2
 have HR2 : Hid _ := hr2
 have g35 : w2.cell? ⟨w.heap.size, 35, none⟩ = some (.slice (some ⟨w.heap.size + 1 + 1 + 1, 0, none⟩) 1 1) := hB.out.hC.cell rfl
 have HB2 : Hid _ := hB2
 clear hr2 hB2
 have L := HV.out.get HB2.out.hC
 have S := HB2.out.hZ.put (⟨f0, f1, f2, r.up, r.base, false, false, p2, 2, c2⟩ : RC)
 have FF : Hid _ := HB2.out.fin rfl
 go_wp2_with (at_builtin; refine wpList_appN rfl _ _ rfl rfl rfl rfl HR2.out ?_)
 exact bodyPost_ret (v := .agg (chV (⟨f0, f1, f2, r.up, r.base, false, false, p2, 2, c2⟩ : RC))) (ch_res Tryz.results158 _ _ (w.heap.size + 1) _ rfl FF.out.1) rfl ⟨f0, f1, f2, _, _, rfl, hF.out, FF.out.2.1, FF.out.2.2⟩
set_option maxRecDepth 20000 in
set_option maxHeartbeats 4000000 in
theorem rbeg_00 (w : World) (r : RC) (v : Int) (hv : By v) (b4 : tb v 4 = true) (b1 : tb v 1 = false) (b0 : tb v 0 = false) : Calls Tryz.prog 158 #[.agg (chV r), .int .u8 v] w fun e w' => ∃ f0 f1 f2 p c, e = .returned (.agg (chV ⟨f0, f1, f2, r.up, r.base, false, false, p, 2, c⟩)) ∧ (∀ k, k < 8 → f0 k = false ∧ f1 k = false ∧ f2 k = false) ∧ Wn w' w.heap.size p 2 c [1, 2] ∧ Kp noB w w' := by
 obtain ⟨T, nI, Z, fs, ps, V⟩ := vlC
 obtain ⟨vl, vs, va, vb⟩ := V.ops
 have v1 := V.agg
 have v2 := V.size
 have v3 := V.zero
 have v4 := V.under
 have v5 := V.map
 have v6 := V.zs
 have cs : ∀ r : RC, (chV r).size = nI := fun r => by rw [V.s]; rfl
 have HV : Hid (VlC T nI Z fs ps) := V
 have HBt : Hid (∀ (w : World) (n : Nat), n < 8 → _) := fun w n hn => bit_any w v hv n hn
 have c0 : ∀ (r : RC), (chV r)[0]? = some (.bool (r.asks 0)) := fun r => rfl
 have c1 : ∀ (r : RC), (chV r)[1]? = some (.bool (r.asks 1)) := fun r => rfl
 have c2 : ∀ (r : RC), (chV r)[2]? = some (.bool (r.asks 2)) := fun r => rfl
 have c3 : ∀ (r : RC), (chV r)[3]? = some (.bool (r.asks 3)) := fun r => rfl
 have c4 : ∀ (r : RC), (chV r)[4]? = some (.bool (r.asks 4)) := fun r => rfl
 have c5 : ∀ (r : RC), (chV r)[5]? = some (.bool (r.asks 5)) := fun r => rfl
 have c6 : ∀ (r : RC), (chV r)[6]? = some (.bool (r.asks 6)) := fun r => rfl
 have c7 : ∀ (r : RC), (chV r)[7]? = some (.bool (r.asks 7)) := fun r => rfl
 have c8 : ∀ (r : RC), (chV r)[8]? = some (.bool (r.srv 0)) := fun r => rfl
 have c9 : ∀ (r : RC), (chV r)[9]? = some (.bool (r.srv 1)) := fun r => rfl
 have c10 : ∀ (r : RC), (chV r)[10]? = some (.bool (r.srv 2)) := fun r => rfl
 have c11 : ∀ (r : RC), (chV r)[11]? = some (.bool (r.srv 3)) := fun r => rfl
 have c12 : ∀ (r : RC), (chV r)[12]? = some (.bool (r.srv 4)) := fun r => rfl
 have c13 : ∀ (r : RC), (chV r)[13]? = some (.bool (r.srv 5)) := fun r => rfl
 have c14 : ∀ (r : RC), (chV r)[14]? = some (.bool (r.srv 6)) := fun r => rfl
 have c15 : ∀ (r : RC), (chV r)[15]? = some (.bool (r.srv 7)) := fun r => rfl
 have c16 : ∀ (r : RC), (chV r)[16]? = some (.bool (r.msk 0)) := fun r => rfl
 have c17 : ∀ (r : RC), (chV r)[17]? = some (.bool (r.msk 1)) := fun r => rfl
 have c18 : ∀ (r : RC), (chV r)[18]? = some (.bool (r.msk 2)) := fun r => rfl
 have c19 : ∀ (r : RC), (chV r)[19]? = some (.bool (r.msk 3)) := fun r => rfl
 have c20 : ∀ (r : RC), (chV r)[20]? = some (.bool (r.msk 4)) := fun r => rfl
 have c21 : ∀ (r : RC), (chV r)[21]? = some (.bool (r.msk 5)) := fun r => rfl
 have c22 : ∀ (r : RC), (chV r)[22]? = some (.bool (r.msk 6)) := fun r => rfl
 have c23 : ∀ (r : RC), (chV r)[23]? = some (.bool (r.msk 7)) := fun r => rfl
 have s0 : ∀ (r : RC) b, (chV r).setIfInBounds 0 (.bool b) = chV { r with asks := upd r.asks 0 b } := fun r b => rfl
 have s1 : ∀ (r : RC) b, (chV r).setIfInBounds 1 (.bool b) = chV { r with asks := upd r.asks 1 b } := fun r b => rfl
 have s2 : ∀ (r : RC) b, (chV r).setIfInBounds 2 (.bool b) = chV { r with asks := upd r.asks 2 b } := fun r b => rfl
 have s3 : ∀ (r : RC) b, (chV r).setIfInBounds 3 (.bool b) = chV { r with asks := upd r.asks 3 b } := fun r b => rfl
 have s4 : ∀ (r : RC) b, (chV r).setIfInBounds 4 (.bool b) = chV { r with asks := upd r.asks 4 b } := fun r b => rfl
 have s5 : ∀ (r : RC) b, (chV r).setIfInBounds 5 (.bool b) = chV { r with asks := upd r.asks 5 b } := fun r b => rfl
 have s6 : ∀ (r : RC) b, (chV r).setIfInBounds 6 (.bool b) = chV { r with asks := upd r.asks 6 b } := fun r b => rfl
 have s7 : ∀ (r : RC) b, (chV r).setIfInBounds 7 (.bool b) = chV { r with asks := upd r.asks 7 b } := fun r b => rfl
 have s8 : ∀ (r : RC) b, (chV r).setIfInBounds 8 (.bool b) = chV { r with srv := upd r.srv 0 b } := fun r b => rfl
 have s9 : ∀ (r : RC) b, (chV r).setIfInBounds 9 (.bool b) = chV { r with srv := upd r.srv 1 b } := fun r b => rfl
 have s10 : ∀ (r : RC) b, (chV r).setIfInBounds 10 (.bool b) = chV { r with srv := upd r.srv 2 b } := fun r b => rfl
 have s11 : ∀ (r : RC) b, (chV r).setIfInBounds 11 (.bool b) = chV { r with srv := upd r.srv 3 b } := fun r b => rfl
 have s12 : ∀ (r : RC) b, (chV r).setIfInBounds 12 (.bool b) = chV { r with srv := upd r.srv 4 b } := fun r b => rfl
 have s13 : ∀ (r : RC) b, (chV r).setIfInBounds 13 (.bool b) = chV { r with srv := upd r.srv 5 b } := fun r b => rfl
 have s14 : ∀ (r : RC) b, (chV r).setIfInBounds 14 (.bool b) = chV { r with srv := upd r.srv 6 b } := fun r b => rfl
 have s15 : ∀ (r : RC) b, (chV r).setIfInBounds 15 (.bool b) = chV { r with srv := upd r.srv 7 b } := fun r b => rfl
 have s16 : ∀ (r : RC) b, (chV r).setIfInBounds 16 (.bool b) = chV { r with msk := upd r.msk 0 b } := fun r b => rfl
 have s17 : ∀ (r : RC) b, (chV r).setIfInBounds 17 (.bool b) = chV { r with msk := upd r.msk 1 b } := fun r b => rfl
 have s18 : ∀ (r : RC) b, (chV r).setIfInBounds 18 (.bool b) = chV { r with msk := upd r.msk 2 b } := fun r b => rfl
 have s19 : ∀ (r : RC) b, (chV r).setIfInBounds 19 (.bool b) = chV { r with msk := upd r.msk 3 b } := fun r b => rfl
 have s20 : ∀ (r : RC) b, (chV r).setIfInBounds 20 (.bool b) = chV { r with msk := upd r.msk 4 b } := fun r b => rfl
 have s21 : ∀ (r : RC) b, (chV r).setIfInBounds 21 (.bool b) = chV { r with msk := upd r.msk 5 b } := fun r b => rfl
 have s22 : ∀ (r : RC) b, (chV r).setIfInBounds 22 (.bool b) = chV { r with msk := upd r.msk 6 b } := fun r b => rfl
 have s23 : ∀ (r : RC) b, (chV r).setIfInBounds 23 (.bool b) = chV { r with msk := upd r.msk 7 b } := fun r b => rfl
 have s33 := set_told
 have s34 := set_ends
 have s35 := set_want
 have c33 : ∀ (r : RC), (chV r)[33]? = some (.bool r.told) := fun r => rfl
 have c34 : ∀ (r : RC), (chV r)[34]? = some (.bool r.ends) := fun r => rfl
 have c35 : ∀ (r : RC), (chV r)[35]? = some (.slice r.wp r.wl r.wc) := fun r => rfl
 clear V hv
 go_enter Tryz.func158, Tryz.ntmps158
 simp only [vl, vs, va, vb]
 clear vl vs va vb
 go_wp2_with fail
 refine Calls.mono (HBt.out _ 4 (by decide)) ?_; rintro e x1 ⟨he, hw⟩; replace hw := hw.symm; subst hw
 rw [b4] at he; subst he
 go_wp2_with fail
 have hB : Hid (BegS w ((((w.alloc (.cells (chV (⟨(upd (upd (upd (upd (upd (upd (upd (upd r.asks 0 false) 1 false) 2 false) 3 false) 4 false) 5 false) 6 false) 7 false), (upd (upd (upd (upd (upd (upd (upd (upd r.srv 0 false) 1 false) 2 false) 3 false) 4 false) 5 false) 6 false) 7 false), (upd (upd (upd (upd (upd (upd (upd (upd r.msk 0 false) 1 false) 2 false) 3 false) 4 false) 5 false) 6 false) 7 false), r.up, r.base, false, false, some ⟨w.heap.size + 1 + 1 + 1, 0, none⟩, 1, 1⟩ : RC)) T)).alloc (.cells Z T)).alloc (.cells #[.bool false, .bool false, .bool false, .bool false, .bool false, .bool false, .bool false, .bool false] 137)).alloc (.cells #[.int .i64 1] 3)) r (upd (upd (upd (upd (upd (upd (upd (upd r.asks 0 false) 1 false) 2 false) 3 false) 4 false) 5 false) 6 false) 7 false) (upd (upd (upd (upd (upd (upd (upd (upd r.srv 0 false) 1 false) 2 false) 3 false) 4 false) 5 false) 6 false) 7 false) (upd (upd (upd (upd (upd (upd (upd (upd r.msk 0 false) 1 false) 2 false) 3 false) 4 false) 5 false) 6 false) 7 false) (some ⟨w.heap.size + 1 + 1 + 1, 0, none⟩) 1 1 [1]) := by
  have e : ∀ o1 o2 o3 : Obj, (((w.alloc o1).alloc o2).alloc o3).heap.size = w.heap.size + 1 + 1 + 1 := fun _ _ _ => by simp
  refine ⟨(((HV.out.at _ w).kept (Kp.alloc noB _ _) id).kept (Kp.alloc noB _ _) id).kept (Kp.alloc noB _ _) id, ((HV.out.zat _ w).kept (Kp.alloc noB _ _) id).kept (Kp.alloc noB _ _) id, ?_, (((Kp.alloc noB _ _).trans (Kp.alloc noB _ _)).trans (Kp.alloc noB _ _)).trans (Kp.alloc noB _ _)⟩
  have := OwnN.new (((w.alloc (.cells (chV (⟨(upd (upd (upd (upd (upd (upd (upd (upd r.asks 0 false) 1 false) 2 false) 3 false) 4 false) 5 false) 6 false) 7 false), (upd (upd (upd (upd (upd (upd (upd (upd r.srv 0 false) 1 false) 2 false) 3 false) 4 false) 5 false) 6 false) 7 false), (upd (upd (upd (upd (upd (upd (upd (upd r.msk 0 false) 1 false) 2 false) 3 false) 4 false) 5 false) 6 false) 7 false), r.up, r.base, false, false, some ⟨w.heap.size + 1 + 1 + 1, 0, none⟩, 1, 1⟩ : RC)) T)).alloc (.cells Z T)).alloc (.cells #[.bool false, .bool false, .bool false, .bool false, .bool false, .bool false, .bool false, .bool false] 137)) (w.heap.size + 2) (by rw [e]; omega) [1] (by decide)
  rw [e] at this
  exact this
 have hF : Hid (∀ k, k < 8 → (upd (upd (upd (upd (upd (upd (upd (upd r.asks 0 false) 1 false) 2 false) 3 false) 4 false) 5 false) 6 false) 7 false) k = false ∧ (upd (upd (upd (upd (upd (upd (upd (upd r.srv 0 false) 1 false) 2 false) 3 false) 4 false) 5 false) 6 false) 7 false) k = false ∧ (upd (upd (upd (upd (upd (upd (upd (upd r.msk 0 false) 1 false) 2 false) 3 false) 4 false) 5 false) 6 false) 7 false) k = false) := fun k hk => ⟨upd8_false _ k hk, upd8_false _ k hk, upd8_false _ k hk⟩
 generalize ((((w.alloc (.cells (chV (⟨(upd (upd (upd (upd (upd (upd (upd (upd r.asks 0 false) 1 false) 2 false) 3 false) 4 false) 5 false) 6 false) 7 false), (upd (upd (upd (upd (upd (upd (upd (upd r.srv 0 false) 1 false) 2 false) 3 false) 4 false) 5 false) 6 false) 7 false), (upd (upd (upd (upd (upd (upd (upd (upd r.msk 0 false) 1 false) 2 false) 3 false) 4 false) 5 false) 6 false) 7 false), r.up, r.base, false, false, some ⟨w.heap.size + 1 + 1 + 1, 0, none⟩, 1, 1⟩ : RC)) T)).alloc (.cells Z T)).alloc (.cells #[.bool false, .bool false, .bool false, .bool false, .bool false, .bool false, .bool false, .bool false] 137)).alloc (.cells #[.int .i64 1] 3)) = w2 at hB ⊢
 generalize (upd (upd (upd (upd (upd (upd (upd (upd r.asks 0 false) 1 false) 2 false) 3 false) 4 false) 5 false) 6 false) 7 false) = f0 at hB hF
 generalize (upd (upd (upd (upd (upd (upd (upd (upd r.srv 0 false) 1 false) 2 false) 3 false) 4 false) 5 false) 6 false) 7 false) = f1 at hB hF
 generalize (upd (upd (upd (upd (upd (upd (upd (upd r.msk 0 false) 1 false) 2 false) 3 false) 4 false) 5 false) 6 false) 7 false) = f2 at hB hF
 clear s0 c0 s1 c1 s2 c2 s3 c3 s4 c4 s5 c5 s6 c6 s7 c7 s8 c8 s9 c9 s10 c10 s11 c11 s12 c12 s13 c13 s14 c14 s15 c15 s16 c16 s17 c17 s18 c18 s19 c19 s20 c20 s21 c21 s22 c22 s23 c23 s33 c33 s34 c34 s35 c35
 refine Calls.mono (HBt.out _ 1 (by decide)) ?_; rintro e x1 ⟨he, hw⟩; replace hw := hw.symm; subst hw
 rw [b1] at he; subst he
 have hx1 := hB.out.app 2 (by decide)
 simp only [List.length_cons, List.length_nil, List.cons_append, List.nil_append, Nat.reduceAdd] at hx1
 obtain ⟨p1, c1, u1, hr1, d1, z1, hB1⟩ := hx1
 have HR1 : Hid _ := hr1
 have g35 : w2.cell? ⟨w.heap.size, 35, none⟩ = some (.slice (some ⟨w.heap.size + 1 + 1 + 1, 0, none⟩) 1 1) := hB.out.hC.cell rfl
 have HB1 : Hid _ := hB1
 clear hr1 hB1
 go_wp2_with (at_builtin; refine wpList_appN rfl _ _ rfl rfl rfl rfl HR1.out ?_)
 have hB := HB1
 generalize (u1.setCell ⟨w.heap.size, 35, none⟩ (.slice p1 2 c1)) = w3 at hB ⊢
 clear HB1 HR1 d1 z1 g35
 refine Calls.mono (HBt.out _ 0 (by decide)) ?_; rintro e x1 ⟨he, hw⟩; replace hw := hw.symm; subst hw
 rw [b0] at he; subst he
 have L := HV.out.get hB.out.hC
 have S := hB.out.hZ.put (⟨f0, f1, f2, r.up, r.base, false, false, p1, 2, c1⟩ : RC)
 have FF : Hid _ := hB.out.fin rfl
 go_wp2
 exact bodyPost_ret (v := .agg (chV (⟨f0, f1, f2, r.up, r.base, false, false, p1, 2, c1⟩ : RC))) (ch_res Tryz.results158 _ _ (w.heap.size + 1) _ rfl FF.out.1) rfl ⟨f0, f1, f2, _, _, rfl, hF.out, FF.out.2.1, FF.out.2.2⟩
set_option maxRecDepth 20000 in
set_option maxHeartbeats 4000000 in
theorem rbeg_01 (w : World) (r : RC) (v : Int) (hv : By v) (b4 : tb v 4 = true) (b1 : tb v 1 = false) (b0 : tb v 0 = true) : Calls Tryz.prog 158 #[.agg (chV r), .int .u8 v] w fun e w' => ∃ f0 f1 f2 p c, e = .returned (.agg (chV ⟨f0, f1, f2, r.up, r.base, false, false, p, 3, c⟩)) ∧ (∀ k, k < 8 → f0 k = false ∧ f1 k = false ∧ f2 k = false) ∧ Wn w' w.heap.size p 3 c [1, 2, 3] ∧ Kp noB w w' := by
 obtain ⟨T, nI, Z, fs, ps, V⟩ := vlC
 obtain ⟨vl, vs, va, vb⟩ := V.ops
 have v1 := V.agg
 have v2 := V.size
 have v3 := V.zero
 have v4 := V.under
 have v5 := V.map
 have v6 := V.zs
 have cs : ∀ r : RC, (chV r).size = nI := fun r => by rw [V.s]; rfl
 have HV : Hid (VlC T nI Z fs ps) := V
 have HBt : Hid (∀ (w : World) (n : Nat), n < 8 → _) := fun w n hn => bit_any w v hv n hn
 have c0 : ∀ (r : RC), (chV r)[0]? = some (.bool (r.asks 0)) := fun r => rfl
 have c1 : ∀ (r : RC), (chV r)[1]? = some (.bool (r.asks 1)) := fun r => rfl
 have c2 : ∀ (r : RC), (chV r)[2]? = some (.bool (r.asks 2)) := fun r => rfl
 have c3 : ∀ (r : RC), (chV r)[3]? = some (.bool (r.asks 3)) := fun r => rfl
 have c4 : ∀ (r : RC), (chV r)[4]? = some (.bool (r.asks 4)) := fun r => rfl
 have c5 : ∀ (r : RC), (chV r)[5]? = some (.bool (r.asks 5)) := fun r => rfl
 have c6 : ∀ (r : RC), (chV r)[6]? = some (.bool (r.asks 6)) := fun r => rfl
 have c7 : ∀ (r : RC), (chV r)[7]? = some (.bool (r.asks 7)) := fun r => rfl
 have c8 : ∀ (r : RC), (chV r)[8]? = some (.bool (r.srv 0)) := fun r => rfl
 have c9 : ∀ (r : RC), (chV r)[9]? = some (.bool (r.srv 1)) := fun r => rfl
 have c10 : ∀ (r : RC), (chV r)[10]? = some (.bool (r.srv 2)) := fun r => rfl
 have c11 : ∀ (r : RC), (chV r)[11]? = some (.bool (r.srv 3)) := fun r => rfl
 have c12 : ∀ (r : RC), (chV r)[12]? = some (.bool (r.srv 4)) := fun r => rfl
 have c13 : ∀ (r : RC), (chV r)[13]? = some (.bool (r.srv 5)) := fun r => rfl
 have c14 : ∀ (r : RC), (chV r)[14]? = some (.bool (r.srv 6)) := fun r => rfl
 have c15 : ∀ (r : RC), (chV r)[15]? = some (.bool (r.srv 7)) := fun r => rfl
 have c16 : ∀ (r : RC), (chV r)[16]? = some (.bool (r.msk 0)) := fun r => rfl
 have c17 : ∀ (r : RC), (chV r)[17]? = some (.bool (r.msk 1)) := fun r => rfl
 have c18 : ∀ (r : RC), (chV r)[18]? = some (.bool (r.msk 2)) := fun r => rfl
 have c19 : ∀ (r : RC), (chV r)[19]? = some (.bool (r.msk 3)) := fun r => rfl
 have c20 : ∀ (r : RC), (chV r)[20]? = some (.bool (r.msk 4)) := fun r => rfl
 have c21 : ∀ (r : RC), (chV r)[21]? = some (.bool (r.msk 5)) := fun r => rfl
 have c22 : ∀ (r : RC), (chV r)[22]? = some (.bool (r.msk 6)) := fun r => rfl
 have c23 : ∀ (r : RC), (chV r)[23]? = some (.bool (r.msk 7)) := fun r => rfl
 have s0 : ∀ (r : RC) b, (chV r).setIfInBounds 0 (.bool b) = chV { r with asks := upd r.asks 0 b } := fun r b => rfl
 have s1 : ∀ (r : RC) b, (chV r).setIfInBounds 1 (.bool b) = chV { r with asks := upd r.asks 1 b } := fun r b => rfl
 have s2 : ∀ (r : RC) b, (chV r).setIfInBounds 2 (.bool b) = chV { r with asks := upd r.asks 2 b } := fun r b => rfl
 have s3 : ∀ (r : RC) b, (chV r).setIfInBounds 3 (.bool b) = chV { r with asks := upd r.asks 3 b } := fun r b => rfl
 have s4 : ∀ (r : RC) b, (chV r).setIfInBounds 4 (.bool b) = chV { r with asks := upd r.asks 4 b } := fun r b => rfl
 have s5 : ∀ (r : RC) b, (chV r).setIfInBounds 5 (.bool b) = chV { r with asks := upd r.asks 5 b } := fun r b => rfl
 have s6 : ∀ (r : RC) b, (chV r).setIfInBounds 6 (.bool b) = chV { r with asks := upd r.asks 6 b } := fun r b => rfl
 have s7 : ∀ (r : RC) b, (chV r).setIfInBounds 7 (.bool b) = chV { r with asks := upd r.asks 7 b } := fun r b => rfl
 have s8 : ∀ (r : RC) b, (chV r).setIfInBounds 8 (.bool b) = chV { r with srv := upd r.srv 0 b } := fun r b => rfl
 have s9 : ∀ (r : RC) b, (chV r).setIfInBounds 9 (.bool b) = chV { r with srv := upd r.srv 1 b } := fun r b => rfl
 have s10 : ∀ (r : RC) b, (chV r).setIfInBounds 10 (.bool b) = chV { r with srv := upd r.srv 2 b } := fun r b => rfl
 have s11 : ∀ (r : RC) b, (chV r).setIfInBounds 11 (.bool b) = chV { r with srv := upd r.srv 3 b } := fun r b => rfl
 have s12 : ∀ (r : RC) b, (chV r).setIfInBounds 12 (.bool b) = chV { r with srv := upd r.srv 4 b } := fun r b => rfl
 have s13 : ∀ (r : RC) b, (chV r).setIfInBounds 13 (.bool b) = chV { r with srv := upd r.srv 5 b } := fun r b => rfl
 have s14 : ∀ (r : RC) b, (chV r).setIfInBounds 14 (.bool b) = chV { r with srv := upd r.srv 6 b } := fun r b => rfl
 have s15 : ∀ (r : RC) b, (chV r).setIfInBounds 15 (.bool b) = chV { r with srv := upd r.srv 7 b } := fun r b => rfl
 have s16 : ∀ (r : RC) b, (chV r).setIfInBounds 16 (.bool b) = chV { r with msk := upd r.msk 0 b } := fun r b => rfl
 have s17 : ∀ (r : RC) b, (chV r).setIfInBounds 17 (.bool b) = chV { r with msk := upd r.msk 1 b } := fun r b => rfl
 have s18 : ∀ (r : RC) b, (chV r).setIfInBounds 18 (.bool b) = chV { r with msk := upd r.msk 2 b } := fun r b => rfl
 have s19 : ∀ (r : RC) b, (chV r).setIfInBounds 19 (.bool b) = chV { r with msk := upd r.msk 3 b } := fun r b => rfl
 have s20 : ∀ (r : RC) b, (chV r).setIfInBounds 20 (.bool b) = chV { r with msk := upd r.msk 4 b } := fun r b => rfl
 have s21 : ∀ (r : RC) b, (chV r).setIfInBounds 21 (.bool b) = chV { r with msk := upd r.msk 5 b } := fun r b => rfl
 have s22 : ∀ (r : RC) b, (chV r).setIfInBounds 22 (.bool b) = chV { r with msk := upd r.msk 6 b } := fun r b => rfl
 have s23 : ∀ (r : RC) b, (chV r).setIfInBounds 23 (.bool b) = chV { r with msk := upd r.msk 7 b } := fun r b => rfl
 have s33 := set_told
 have s34 := set_ends
 have s35 := set_want
 have c33 : ∀ (r : RC), (chV r)[33]? = some (.bool r.told) := fun r => rfl
 have c34 : ∀ (r : RC), (chV r)[34]? = some (.bool r.ends) := fun r => rfl
 have c35 : ∀ (r : RC), (chV r)[35]? = some (.slice r.wp r.wl r.wc) := fun r => rfl
 clear V hv
 go_enter Tryz.func158, Tryz.ntmps158
 simp only [vl, vs, va, vb]
 clear vl vs va vb
 go_wp2_with fail
 refine Calls.mono (HBt.out _ 4 (by decide)) ?_; rintro e x1 ⟨he, hw⟩; replace hw := hw.symm; subst hw
 rw [b4] at he; subst he
 go_wp2_with fail
 have hB : Hid (BegS w ((((w.alloc (.cells (chV (⟨(upd (upd (upd (upd (upd (upd (upd (upd r.asks 0 false) 1 false) 2 false) 3 false) 4 false) 5 false) 6 false) 7 false), (upd (upd (upd (upd (upd (upd (upd (upd r.srv 0 false) 1 false) 2 false) 3 false) 4 false) 5 false) 6 false) 7 false), (upd (upd (upd (upd (upd (upd (upd (upd r.msk 0 false) 1 false) 2 false) 3 false) 4 false) 5 false) 6 false) 7 false), r.up, r.base, false, false, some ⟨w.heap.size + 1 + 1 + 1, 0, none⟩, 1, 1⟩ : RC)) T)).alloc (.cells Z T)).alloc (.cells #[.bool false, .bool false, .bool false, .bool false, .bool false, .bool false, .bool false, .bool false] 137)).alloc (.cells #[.int .i64 1] 3)) r (upd (upd (upd (upd (upd (upd (upd (upd r.asks 0 false) 1 false) 2 false) 3 false) 4 false) 5 false) 6 false) 7 false) (upd (upd (upd (upd (upd (upd (upd (upd r.srv 0 false) 1 false) 2 false) 3 false) 4 false) 5 false) 6 false) 7 false) (upd (upd (upd (upd (upd (upd (upd (upd r.msk 0 false) 1 false) 2 false) 3 false) 4 false) 5 false) 6 false) 7 false) (some ⟨w.heap.size + 1 + 1 + 1, 0, none⟩) 1 1 [1]) := by
  have e : ∀ o1 o2 o3 : Obj, (((w.alloc o1).alloc o2).alloc o3).heap.size = w.heap.size + 1 + 1 + 1 := fun _ _ _ => by simp
  refine ⟨(((HV.out.at _ w).kept (Kp.alloc noB _ _) id).kept (Kp.alloc noB _ _) id).kept (Kp.alloc noB _ _) id, ((HV.out.zat _ w).kept (Kp.alloc noB _ _) id).kept (Kp.alloc noB _ _) id, ?_, (((Kp.alloc noB _ _).trans (Kp.alloc noB _ _)).trans (Kp.alloc noB _ _)).trans (Kp.alloc noB _ _)⟩
  have := OwnN.new (((w.alloc (.cells (chV (⟨(upd (upd (upd (upd (upd (upd (upd (upd r.asks 0 false) 1 false) 2 false) 3 false) 4 false) 5 false) 6 false) 7 false), (upd (upd (upd (upd (upd (upd (upd (upd r.srv 0 false) 1 false) 2 false) 3 false) 4 false) 5 false) 6 false) 7 false), (upd (upd (upd (upd (upd (upd (upd (upd r.msk 0 false) 1 false) 2 false) 3 false) 4 false) 5 false) 6 false) 7 false), r.up, r.base, false, false, some ⟨w.heap.size + 1 + 1 + 1, 0, none⟩, 1, 1⟩ : RC)) T)).alloc (.cells Z T)).alloc (.cells #[.bool false, .bool false, .bool false, .bool false, .bool false, .bool false, .bool false, .bool false] 137)) (w.heap.size + 2) (by rw [e]; omega) [1] (by decide)
  rw [e] at this
  exact this
 have hF : Hid (∀ k, k < 8 → (upd (upd (upd (upd (upd (upd (upd (upd r.asks 0 false) 1 false) 2 false) 3 false) 4 false) 5 false) 6 false) 7 false) k = false ∧ (upd (upd (upd (upd (upd (upd (upd (upd r.srv 0 false) 1 false) 2 false) 3 false) 4 false) 5 false) 6 false) 7 false) k = false ∧ (upd (upd (upd (upd (upd (upd (upd (upd r.msk 0 false) 1 false) 2 false) 3 false) 4 false) 5 false) 6 false) 7 false) k = false) := fun k hk => ⟨upd8_false _ k hk, upd8_false _ k hk, upd8_false _ k hk⟩
 generalize ((((w.alloc (.cells (chV (⟨(upd (upd (upd (upd (upd (upd (upd (upd r.asks 0 false) 1 false) 2 false) 3 false) 4 false) 5 false) 6 false) 7 false), (upd (upd (upd (upd (upd (upd (upd (upd r.srv 0 false) 1 false) 2 false) 3 false) 4 false) 5 false) 6 false) 7 false), (upd (upd (upd (upd (upd (upd (upd (upd r.msk 0 false) 1 false) 2 false) 3 false) 4 false) 5 false) 6 false) 7 false), r.up, r.base, false, false, some ⟨w.heap.size + 1 + 1 + 1, 0, none⟩, 1, 1⟩ : RC)) T)).alloc (.cells Z T)).alloc (.cells #[.bool false, .bool false, .bool false, .bool false, .bool false, .bool false, .bool false, .bool false] 137)).alloc (.cells #[.int .i64 1] 3)) = w2 at hB ⊢
 generalize (upd (upd (upd (upd (upd (upd (upd (upd r.asks 0 false) 1 false) 2 false) 3 false) 4 false) 5 false) 6 false) 7 false) = f0 at hB hF
 generalize (upd (upd (upd (upd (upd (upd (upd (upd r.srv 0 false) 1 false) 2 false) 3 false) 4 false) 5 false) 6 false) 7 false) = f1 at hB hF
 generalize (upd (upd (upd (upd (upd (upd (upd (upd r.msk 0 false) 1 false) 2 false) 3 false) 4 false) 5 false) 6 false) 7 false) = f2 at hB hF
 clear s0 c0 s1 c1 s2 c2 s3 c3 s4 c4 s5 c5 s6 c6 s7 c7 s8 c8 s9 c9 s10 c10 s11 c11 s12 c12 s13 c13 s14 c14 s15 c15 s16 c16 s17 c17 s18 c18 s19 c19 s20 c20 s21 c21 s22 c22 s23 c23 s33 c33 s34 c34 s35 c35
 refine Calls.mono (HBt.out _ 1 (by decide)) ?_; rintro e x1 ⟨he, hw⟩; replace hw := hw.symm; subst hw
 rw [b1] at he; subst he
 have hx1 := hB.out.app 2 (by decide)
 simp only [List.length_cons, List.length_nil, List.cons_append, List.nil_append, Nat.reduceAdd] at hx1
 obtain ⟨p1, c1, u1, hr1, d1, z1, hB1⟩ := hx1
 have HR1 : Hid _ := hr1
 have g35 : w2.cell? ⟨w.heap.size, 35, none⟩ = some (.slice (some ⟨w.heap.size + 1 + 1 + 1, 0, none⟩) 1 1) := hB.out.hC.cell rfl
 have HB1 : Hid _ := hB1
 clear hr1 hB1
 go_wp2_with (at_builtin; refine wpList_appN rfl _ _ rfl rfl rfl rfl HR1.out ?_)
 have hB := HB1
 generalize (u1.setCell ⟨w.heap.size, 35, none⟩ (.slice p1 2 c1)) = w3 at hB ⊢
 clear HB1 HR1 d1 z1 g35
 refine Calls.mono (HBt.out _ 0 (by decide)) ?_; rintro e x1 ⟨he, hw⟩; replace hw := hw.symm; subst hw
 rw [b0] at he; subst he
 have hx2 := hB.out.app 3 (by decide)
 simp only [List.length_cons, List.length_nil, List.cons_append, List.nil_append, Nat.reduceAdd] at hx2
 obtain ⟨p2, c2, u2, hr2, d2, z2, hB2⟩ := hx2
 have HR2 : Hid _ := hr2
 have g35 : w3.cell? ⟨w.heap.size, 35, none⟩ = some (.slice p1 2 c1) := hB.out.hC.cell rfl
 have HB2 : Hid _ := hB2
 clear hr2 hB2
 have L := HV.out.get HB2.out.hC
 have S := HB2.out.hZ.put (⟨f0, f1, f2, r.up, r.base, false, false, p2, 3, c2⟩ : RC)
 have FF : Hid _ := HB2.out.fin rfl
 go_wp2_with (at_builtin; refine wpList_appN rfl _ _ rfl rfl rfl rfl HR2.out ?_)
 exact bodyPost_ret (v := .agg (chV (⟨f0, f1, f2, r.up, r.base, false, false, p2, 3, c2⟩ : RC))) (ch_res Tryz.results158 _ _ (w.heap.size + 1) _ rfl FF.out.1) rfl ⟨f0, f1, f2, _, _, rfl, hF.out, FF.out.2.1, FF.out.2.2⟩
end Go.Proofs.YtonfjhbfkichkaaGreat.Pc
