/- The bus and its devices: DecMap, DecFind, DecDec. -/
import Derived.Test.YtiagfmkinefidaaGreatEx09
import Derived.Laws.Rows
import Derived.Deep.MidRow
namespace Go.Proofs.YtiagfmkinefidaaGreat.Dc
open Go.ChangeShapes Go.WideShapes Go.ChangeAt Go.RowKit
set_option linter.unusedVariables false
set_option maxRecDepth 20000
def L00 (a : Int) : List (Int × Nat) := [(a, 230), (a + 1, 235), (a + 2, 236), (a + 3, 237), (a + 4, 238), (a + 5, 241), (6, 242), (14, 244), (22, 245), (30, 246), (7, 247), (23, 248), (31, 249), (39, 250), (47, 251), (55, 252), (63, 253)]
theorem nd00 (a : Int) (h : a = 0 ∨ a = 8 ∨ a = 16 ∨ a = 24 ∨ a = 32 ∨ a = 40 ∨ a = 48 ∨ a = 56) : ((L00 a).map Prod.fst).Nodup := by
  rcases h with rfl | rfl | rfl | rfl | rfl | rfl | rfl | rfl <;> decide
def ix00 : List Nat := [3, 6, 9, 12, 15, 18, 19, 20, 21, 22, 23, 24, 25, 26, 27, 28, 29]
def en00 (a : Int) (i : Nat) : Int × Nat := ([(0, 0), (0, 0), (0, 0), (a, 230), (0, 0), (0, 0), (a + 1, 235), (0, 0), (0, 0), (a + 2, 236), (0, 0), (0, 0), (a + 3, 237), (0, 0), (0, 0), (a + 4, 238), (0, 0), (0, 0), (a + 5, 241), (6, 242), (14, 244), (22, 245), (30, 246), (7, 247), (23, 248), (31, 249), (39, 250), (47, 251), (55, 252), (63, 253), (0, 0), (0, 0)] : List (Int × Nat)).getD i (0, 0)
def ff00 : Array Bool := #[true, true, true, true, true, true, true, true, true, true, true, true, true, true, true, true, true, true, true, true, true, true, true, true, true, true, true, true, true, true, false, false]
theorem ky00 (a : Int) (h : a = 0 ∨ a = 8 ∨ a = 16 ∨ a = 24 ∨ a = 32 ∨ a = 40 ∨ a = 48 ∨ a = 56) : ∀ i ∈ ix00, ∀ j ∈ ix00, (en00 a i).1 = (en00 a j).1 → i = j := by
  rcases h with rfl | rfl | rfl | rfl | rfl | rfl | rfl | rfl <;> decide
set_option maxHeartbeats 2000000 in
theorem from00_ok (w : World) (op : Int) (a : Int) (h : a = 0 ∨ a = 8 ∨ a = 16 ∨ a = 24 ∨ a = 32 ∨ a = 40 ∨ a = 48 ∨ a = 56) (ha : bits .andNot .i64 op 7 = a) (a0 : 0 ≤ a) (a1 : a < 64) :
    Calls Tryz.prog 134 #[.int .i64 op] w fun e w' => e = .returned (.map (some w.heap.size)) ∧ ∃ L, (∀ e, e ∈ L ↔ e ∈ L00 a) ∧ (L.map Prod.fst).Nodup ∧ w' = md w L := by
  have hmm := @run_makeMap Tryz.prog
  have HK : Hid _ := ky00 a h
  clear h
  go_enter Tryz.func134, Tryz.ntmps134
  go_wp2
  refine wp_region_any (by kernel_rfl) ?_
  refine wpAny_take (i := 1) (v := .int .i64 (a)) rfl (by kernel_rfl) (by kernel_rfl) (by kernel_rfl) (fun _ _ _ h => h) (Or.inl ⟨by rfl, by intro w; go_simp⟩) ?_
  refine wpAny_take (i := 2) (v := .int .i64 (a)) rfl (by kernel_rfl) (by kernel_rfl) (by kernel_rfl) (fun _ _ _ h => h) (Or.inl ⟨by rfl, by intro w; go_simp; exact IntWalk.i64_in _ ⟨by omega, by omega⟩⟩) ?_
  refine wpAny_take (i := 4) (v := .int .i64 (a)) rfl (by kernel_rfl) (by kernel_rfl) (by kernel_rfl) (fun _ _ _ h => h) (Or.inl ⟨by rfl, by intro w; go_simp⟩) ?_
  refine wpAny_take (i := 5) (v := .int .i64 (a + 1)) rfl (by kernel_rfl) (by kernel_rfl) (by kernel_rfl) (fun _ _ _ h => h) (Or.inl ⟨by rfl, by intro w; go_simp; exact IntWalk.i64_in _ ⟨by omega, by omega⟩⟩) ?_
  refine wpAny_take (i := 7) (v := .int .i64 (a)) rfl (by kernel_rfl) (by kernel_rfl) (by kernel_rfl) (fun _ _ _ h => h) (Or.inl ⟨by rfl, by intro w; go_simp⟩) ?_
  refine wpAny_take (i := 8) (v := .int .i64 (a + 2)) rfl (by kernel_rfl) (by kernel_rfl) (by kernel_rfl) (fun _ _ _ h => h) (Or.inl ⟨by rfl, by intro w; go_simp; exact IntWalk.i64_in _ ⟨by omega, by omega⟩⟩) ?_
  refine wpAny_take (i := 10) (v := .int .i64 (a)) rfl (by kernel_rfl) (by kernel_rfl) (by kernel_rfl) (fun _ _ _ h => h) (Or.inl ⟨by rfl, by intro w; go_simp⟩) ?_
  refine wpAny_take (i := 11) (v := .int .i64 (a + 3)) rfl (by kernel_rfl) (by kernel_rfl) (by kernel_rfl) (fun _ _ _ h => h) (Or.inl ⟨by rfl, by intro w; go_simp; exact IntWalk.i64_in _ ⟨by omega, by omega⟩⟩) ?_
  refine wpAny_take (i := 13) (v := .int .i64 (a)) rfl (by kernel_rfl) (by kernel_rfl) (by kernel_rfl) (fun _ _ _ h => h) (Or.inl ⟨by rfl, by intro w; go_simp⟩) ?_
  refine wpAny_take (i := 14) (v := .int .i64 (a + 4)) rfl (by kernel_rfl) (by kernel_rfl) (by kernel_rfl) (fun _ _ _ h => h) (Or.inl ⟨by rfl, by intro w; go_simp; exact IntWalk.i64_in _ ⟨by omega, by omega⟩⟩) ?_
  refine wpAny_take (i := 16) (v := .int .i64 (a)) rfl (by kernel_rfl) (by kernel_rfl) (by kernel_rfl) (fun _ _ _ h => h) (Or.inl ⟨by rfl, by intro w; go_simp⟩) ?_
  refine wpAny_take (i := 17) (v := .int .i64 (a + 5)) rfl (by kernel_rfl) (by kernel_rfl) (by kernel_rfl) (fun _ _ _ h => h) (Or.inl ⟨by rfl, by intro w; go_simp; exact IntWalk.i64_in _ ⟨by omega, by omega⟩⟩) ?_
  refine wpAny_all (rs := [0]) (by kernel_rfl) (by simp) ?_
  intro i hi
  rw [List.mem_singleton] at hi
  subst hi
  refine step_make rfl rfl rfl rfl ?_
  refine ins_all (P := Tryz.prog) (md' := .any) _ w (en00 a) ix00 ff00 _ (by kernel_rfl) rfl (by decide) HK.out (by kernel_rfl) (by kernel_rfl) ?_ 2 _ rfl ?_
  · intro i hi L K hL hK
    simp [ix00] at hi
    rcases hi with rfl | rfl | rfl | rfl | rfl | rfl | rfl | rfl | rfl | rfl | rfl | rfl | rfl | rfl | rfl | rfl | rfl
    all_goals exact step_ins rfl rfl rfl rfl (by kernel_rfl) (by kernel_rfl) (by kernel_rfl) hL hK
  · intro L hL hLn
    refine wpAny_take (i := 30) (v := .map (some w.heap.size)) rfl (by kernel_rfl) (by kernel_rfl) (by kernel_rfl) (fun _ _ _ h => h) (Or.inl ⟨by rfl, by intro w; go_simp⟩) ?_
    refine wpAny_all (rs := [31]) (by kernel_rfl) (by simp) ?_
    intro i hi
    rw [List.mem_singleton] at hi
    subst hi
    refine step_put rfl rfl rfl ?_
    refine wpAny_done (by kernel_rfl) ?_ _
    have HL : Hid (∀ e, e ∈ L ↔ e ∈ L00 a) := hL
    have HN : Hid _ := hLn
    clear hL hLn
    refine then_act (a := { tmps := #[.int .i64 op, undef, .map (some w.heap.size), .int .i64 a, .int .i64 op, .int .i64 a, .map (some w.heap.size), .int .i64 (a), .int .i64 (a), .int .i64 (a), .int .i64 (a + 1), .int .i64 (a), .int .i64 (a + 2), .int .i64 (a), .int .i64 (a + 3), .int .i64 (a), .int .i64 (a + 4), .int .i64 (a), .int .i64 (a + 5), .map (some w.heap.size)], defers := [] }) (by kernel_rfl) ?_
    go_wp2
    go_ret
    exact ⟨rfl, L, HL.out, HN.out, rfl⟩
def L40 (r : Int) (c : Int) : List (Int × Nat) := [(64 + r, 254), (72 + r, 256), (80 + r, 257), (88 + r, 258), (96, 259), (97, 260), (104, 261), (105, 262), (106, 263), (107, 265), (112 + c, 266)]
theorem nd40 (r : Int) (c : Int) (h : r = 0 ∧ c = 0 ∨ r = 1 ∧ c = 1 ∨ r = 2 ∧ c = 2 ∨ r = 3 ∧ c = 3 ∨ r = 4 ∧ c = 4 ∨ r = 5 ∧ c = 5 ∨ r = 6 ∧ c = 6 ∨ r = 7 ∧ c = 7 ∨ r = 0 ∧ c = 8 ∨ r = 1 ∧ c = 9 ∨ r = 2 ∧ c = 10 ∨ r = 3 ∧ c = 11 ∨ r = 4 ∧ c = 12 ∨ r = 5 ∧ c = 13 ∨ r = 6 ∧ c = 14 ∨ r = 7 ∧ c = 15) : ((L40 r c).map Prod.fst).Nodup := by
  rcases h with ⟨rfl, rfl⟩ | ⟨rfl, rfl⟩ | ⟨rfl, rfl⟩ | ⟨rfl, rfl⟩ | ⟨rfl, rfl⟩ | ⟨rfl, rfl⟩ | ⟨rfl, rfl⟩ | ⟨rfl, rfl⟩ | ⟨rfl, rfl⟩ | ⟨rfl, rfl⟩ | ⟨rfl, rfl⟩ | ⟨rfl, rfl⟩ | ⟨rfl, rfl⟩ | ⟨rfl, rfl⟩ | ⟨rfl, rfl⟩ | ⟨rfl, rfl⟩ <;> decide
def ix40 : List Nat := [3, 6, 9, 12, 13, 14, 15, 16, 17, 18, 21]
def en40 (r : Int) (c : Int) (i : Nat) : Int × Nat := ([(0, 0), (0, 0), (0, 0), (64 + r, 254), (0, 0), (0, 0), (72 + r, 256), (0, 0), (0, 0), (80 + r, 257), (0, 0), (0, 0), (88 + r, 258), (96, 259), (97, 260), (104, 261), (105, 262), (106, 263), (107, 265), (0, 0), (0, 0), (112 + c, 266), (0, 0), (0, 0)] : List (Int × Nat)).getD i (0, 0)
def ff40 : Array Bool := #[true, true, true, true, true, true, true, true, true, true, true, true, true, true, true, true, true, true, true, true, true, true, false, false]
theorem ky40 (r : Int) (c : Int) (h : r = 0 ∧ c = 0 ∨ r = 1 ∧ c = 1 ∨ r = 2 ∧ c = 2 ∨ r = 3 ∧ c = 3 ∨ r = 4 ∧ c = 4 ∨ r = 5 ∧ c = 5 ∨ r = 6 ∧ c = 6 ∨ r = 7 ∧ c = 7 ∨ r = 0 ∧ c = 8 ∨ r = 1 ∧ c = 9 ∨ r = 2 ∧ c = 10 ∨ r = 3 ∧ c = 11 ∨ r = 4 ∧ c = 12 ∨ r = 5 ∧ c = 13 ∨ r = 6 ∧ c = 14 ∨ r = 7 ∧ c = 15) : ∀ i ∈ ix40, ∀ j ∈ ix40, (en40 r c i).1 = (en40 r c j).1 → i = j := by
  rcases h with ⟨rfl, rfl⟩ | ⟨rfl, rfl⟩ | ⟨rfl, rfl⟩ | ⟨rfl, rfl⟩ | ⟨rfl, rfl⟩ | ⟨rfl, rfl⟩ | ⟨rfl, rfl⟩ | ⟨rfl, rfl⟩ | ⟨rfl, rfl⟩ | ⟨rfl, rfl⟩ | ⟨rfl, rfl⟩ | ⟨rfl, rfl⟩ | ⟨rfl, rfl⟩ | ⟨rfl, rfl⟩ | ⟨rfl, rfl⟩ | ⟨rfl, rfl⟩ <;> decide
set_option maxHeartbeats 2000000 in
theorem from40_ok (w : World) (op : Int) (r : Int) (c : Int) (h : r = 0 ∧ c = 0 ∨ r = 1 ∧ c = 1 ∨ r = 2 ∧ c = 2 ∨ r = 3 ∧ c = 3 ∨ r = 4 ∧ c = 4 ∨ r = 5 ∧ c = 5 ∨ r = 6 ∧ c = 6 ∨ r = 7 ∧ c = 7 ∨ r = 0 ∧ c = 8 ∨ r = 1 ∧ c = 9 ∨ r = 2 ∧ c = 10 ∨ r = 3 ∧ c = 11 ∨ r = 4 ∧ c = 12 ∨ r = 5 ∧ c = 13 ∨ r = 6 ∧ c = 14 ∨ r = 7 ∧ c = 15) (hr : bits .and .i64 op 7 = r) (r0 : 0 ≤ r) (r1 : r < 8) (hc : bits .and .i64 op 15 = c) (c0 : 0 ≤ c) (c1 : c < 16) :
    Calls Tryz.prog 135 #[.int .i64 op] w fun e w' => e = .returned (.map (some w.heap.size)) ∧ ∃ L, (∀ e, e ∈ L ↔ e ∈ L40 r c) ∧ (L.map Prod.fst).Nodup ∧ w' = md w L := by
  have hmm := @run_makeMap Tryz.prog
  have HK : Hid _ := ky40 r c h
  clear h
  go_enter Tryz.func135, Tryz.ntmps135
  go_wp2
  refine wp_region_any (by kernel_rfl) ?_
  refine wpAny_take (i := 1) (v := .int .i64 (r)) rfl (by kernel_rfl) (by kernel_rfl) (by kernel_rfl) (fun _ _ _ h => h) (Or.inl ⟨by rfl, by intro w; go_simp⟩) ?_
  refine wpAny_take (i := 2) (v := .int .i64 (64 + r)) rfl (by kernel_rfl) (by kernel_rfl) (by kernel_rfl) (fun _ _ _ h => h) (Or.inl ⟨by rfl, by intro w; go_simp; exact IntWalk.i64_in _ ⟨by omega, by omega⟩⟩) ?_
  refine wpAny_take (i := 4) (v := .int .i64 (r)) rfl (by kernel_rfl) (by kernel_rfl) (by kernel_rfl) (fun _ _ _ h => h) (Or.inl ⟨by rfl, by intro w; go_simp⟩) ?_
  refine wpAny_take (i := 5) (v := .int .i64 (72 + r)) rfl (by kernel_rfl) (by kernel_rfl) (by kernel_rfl) (fun _ _ _ h => h) (Or.inl ⟨by rfl, by intro w; go_simp; exact IntWalk.i64_in _ ⟨by omega, by omega⟩⟩) ?_
  refine wpAny_take (i := 7) (v := .int .i64 (r)) rfl (by kernel_rfl) (by kernel_rfl) (by kernel_rfl) (fun _ _ _ h => h) (Or.inl ⟨by rfl, by intro w; go_simp⟩) ?_
  refine wpAny_take (i := 8) (v := .int .i64 (80 + r)) rfl (by kernel_rfl) (by kernel_rfl) (by kernel_rfl) (fun _ _ _ h => h) (Or.inl ⟨by rfl, by intro w; go_simp; exact IntWalk.i64_in _ ⟨by omega, by omega⟩⟩) ?_
  refine wpAny_take (i := 10) (v := .int .i64 (r)) rfl (by kernel_rfl) (by kernel_rfl) (by kernel_rfl) (fun _ _ _ h => h) (Or.inl ⟨by rfl, by intro w; go_simp⟩) ?_
  refine wpAny_take (i := 11) (v := .int .i64 (88 + r)) rfl (by kernel_rfl) (by kernel_rfl) (by kernel_rfl) (fun _ _ _ h => h) (Or.inl ⟨by rfl, by intro w; go_simp; exact IntWalk.i64_in _ ⟨by omega, by omega⟩⟩) ?_
  refine wpAny_take (i := 19) (v := .int .i64 (c)) rfl (by kernel_rfl) (by kernel_rfl) (by kernel_rfl) (fun _ _ _ h => h) (Or.inl ⟨by rfl, by intro w; go_simp⟩) ?_
  refine wpAny_take (i := 20) (v := .int .i64 (112 + c)) rfl (by kernel_rfl) (by kernel_rfl) (by kernel_rfl) (fun _ _ _ h => h) (Or.inl ⟨by rfl, by intro w; go_simp; exact IntWalk.i64_in _ ⟨by omega, by omega⟩⟩) ?_
  refine wpAny_all (rs := [0]) (by kernel_rfl) (by simp) ?_
  intro i hi
  rw [List.mem_singleton] at hi
  subst hi
  refine step_make rfl rfl rfl rfl ?_
  refine ins_all (P := Tryz.prog) (md' := .any) _ w (en40 r c) ix40 ff40 _ (by kernel_rfl) rfl (by decide) HK.out (by kernel_rfl) (by kernel_rfl) ?_ 2 _ rfl ?_
  · intro i hi L K hL hK
    simp [ix40] at hi
    rcases hi with rfl | rfl | rfl | rfl | rfl | rfl | rfl | rfl | rfl | rfl | rfl
    all_goals exact step_ins rfl rfl rfl rfl (by kernel_rfl) (by kernel_rfl) (by kernel_rfl) hL hK
  · intro L hL hLn
    refine wpAny_take (i := 22) (v := .map (some w.heap.size)) rfl (by kernel_rfl) (by kernel_rfl) (by kernel_rfl) (fun _ _ _ h => h) (Or.inl ⟨by rfl, by intro w; go_simp⟩) ?_
    refine wpAny_all (rs := [23]) (by kernel_rfl) (by simp) ?_
    intro i hi
    rw [List.mem_singleton] at hi
    subst hi
    refine step_put rfl rfl rfl ?_
    refine wpAny_done (by kernel_rfl) ?_ _
    have HL : Hid (∀ e, e ∈ L ↔ e ∈ L40 r c) := hL
    have HN : Hid _ := hLn
    clear hL hLn
    refine then_act (a := { tmps := #[.int .i64 op, undef, .map (some w.heap.size), .int .i64 r, .int .i64 c, .int .i64 op, .int .i64 r, .int .i64 op, .int .i64 c, .map (some w.heap.size), .int .i64 (r), .int .i64 (64 + r), .int .i64 (r), .int .i64 (72 + r), .int .i64 (r), .int .i64 (80 + r), .int .i64 (r), .int .i64 (88 + r), .int .i64 (c), .int .i64 (112 + c), .map (some w.heap.size)], defers := [] }) (by kernel_rfl) ?_
    go_wp2
    go_ret
    exact ⟨rfl, L, HL.out, HN.out, rfl⟩
def L80 (r : Int) : List (Int × Nat) := [(128, 269), (129, 271), (131, 272), (132, 273), (133, 274), (134, 275), (135, 276), (136, 277), (137, 278), (138, 279), (139, 280), (140, 281), (141, 282), (142, 283), (143, 284), (144 + r, 286), (152, 287), (153, 288), (156, 289), (157, 290), (158, 291), (159, 292)]
theorem nd80 (r : Int) (h : r = 0 ∨ r = 1 ∨ r = 2 ∨ r = 3 ∨ r = 4 ∨ r = 5 ∨ r = 6 ∨ r = 7) : ((L80 r).map Prod.fst).Nodup := by
  rcases h with rfl | rfl | rfl | rfl | rfl | rfl | rfl | rfl <;> decide
def ix80 : List Nat := [1, 2, 3, 4, 5, 6, 7, 8, 9, 10, 11, 12, 13, 14, 15, 18, 19, 20, 21, 22, 23, 24]
def en80 (r : Int) (i : Nat) : Int × Nat := ([(0, 0), (128, 269), (129, 271), (131, 272), (132, 273), (133, 274), (134, 275), (135, 276), (136, 277), (137, 278), (138, 279), (139, 280), (140, 281), (141, 282), (142, 283), (143, 284), (0, 0), (0, 0), (144 + r, 286), (152, 287), (153, 288), (156, 289), (157, 290), (158, 291), (159, 292), (0, 0), (0, 0)] : List (Int × Nat)).getD i (0, 0)
def ff80 : Array Bool := #[true, true, true, true, true, true, true, true, true, true, true, true, true, true, true, true, true, true, true, true, true, true, true, true, true, false, false]
theorem ky80 (r : Int) (h : r = 0 ∨ r = 1 ∨ r = 2 ∨ r = 3 ∨ r = 4 ∨ r = 5 ∨ r = 6 ∨ r = 7) : ∀ i ∈ ix80, ∀ j ∈ ix80, (en80 r i).1 = (en80 r j).1 → i = j := by
  rcases h with rfl | rfl | rfl | rfl | rfl | rfl | rfl | rfl <;> decide
def upd9 (L : List (Int × Nat)) : List (Int × Nat) := if (∃ e ∈ L, e.1 = 144) then upd L 144 293 else L ++ [(144, 293)]
set_option maxHeartbeats 2000000 in
theorem from80_ok (w : World) (op : Int) (r : Int) (h : r = 0 ∨ r = 1 ∨ r = 2 ∨ r = 3 ∨ r = 4 ∨ r = 5 ∨ r = 6 ∨ r = 7) (hr : bits .and .i64 op 7 = r) (r0 : 0 ≤ r) (r1 : r < 8) :
    Calls Tryz.prog 136 #[.int .i64 op] w fun e w' => e = .returned (.map (some w.heap.size)) ∧ ∃ L, (∀ e, e ∈ L ↔ e ∈ L80 r) ∧ (L.map Prod.fst).Nodup ∧ w' = md w (upd9 L) := by
  have hmm := @run_makeMap Tryz.prog
  have HK : Hid _ := ky80 r h
  clear h
  go_enter Tryz.func136, Tryz.ntmps136
  go_wp2
  refine wp_region_any (by kernel_rfl) ?_
  refine wpAny_take (i := 16) (v := .int .i64 (r)) rfl (by kernel_rfl) (by kernel_rfl) (by kernel_rfl) (fun _ _ _ h => h) (Or.inl ⟨by rfl, by intro w; go_simp⟩) ?_
  refine wpAny_take (i := 17) (v := .int .i64 (144 + r)) rfl (by kernel_rfl) (by kernel_rfl) (by kernel_rfl) (fun _ _ _ h => h) (Or.inl ⟨by rfl, by intro w; go_simp; exact IntWalk.i64_in _ ⟨by omega, by omega⟩⟩) ?_
  refine wpAny_all (rs := [0]) (by kernel_rfl) (by simp) ?_
  intro i hi
  rw [List.mem_singleton] at hi
  subst hi
  refine step_make rfl rfl rfl rfl ?_
  refine ins_all (P := Tryz.prog) (md' := .any) _ w (en80 r) ix80 ff80 _ (by kernel_rfl) rfl (by decide) HK.out (by kernel_rfl) (by kernel_rfl) ?_ 2 _ rfl ?_
  · intro i hi L K hL hK
    simp [ix80] at hi
    rcases hi with rfl | rfl | rfl | rfl | rfl | rfl | rfl | rfl | rfl | rfl | rfl | rfl | rfl | rfl | rfl | rfl | rfl | rfl | rfl | rfl | rfl | rfl
    all_goals exact step_ins rfl rfl rfl rfl (by kernel_rfl) (by kernel_rfl) (by kernel_rfl) hL hK
  · intro L hL hLn
    refine wpAny_take (i := 25) (v := .map (some w.heap.size)) rfl (by kernel_rfl) (by kernel_rfl) (by kernel_rfl) (fun _ _ _ h => h) (Or.inl ⟨by rfl, by intro w; go_simp⟩) ?_
    refine wpAny_all (rs := [26]) (by kernel_rfl) (by simp) ?_
    intro i hi
    rw [List.mem_singleton] at hi
    subst hi
    refine step_put rfl rfl rfl ?_
    refine wpAny_done (by kernel_rfl) ?_ _
    have HL : Hid (∀ e, e ∈ L ↔ e ∈ L80 r) := hL
    have HN : Hid _ := hLn
    clear hL hLn
    refine then_act (a := { tmps := #[.int .i64 op, undef, .map none, .int .i64 r, .map (some w.heap.size), .int .i64 op, .int .i64 r, .map (some w.heap.size), .int .i64 (r), .int .i64 (144 + r), .map (some w.heap.size), undef, undef], defers := [] }) (by kernel_rfl) ?_
    have hu : (Instr.mapUpdate 249 (.map (some w.heap.size)) (.int .i64 144) (.func (.func 293) #[] #[])).run Tryz.prog (md w L) = .ok () (md w (upd9 L)) := by
      unfold upd9
      split
      · rename_i h9; exact upd_mp w.drew L 144 _ h9
      · rename_i h9; exact put_mp w.drew L 144 _ (fun e he hk => h9 ⟨e, he, hk⟩)
    go_wp2
    go_ret
    exact ⟨rfl, L, HL.out, HN.out, rfl⟩
def LA0 (r : Int) : List (Int × Nat) := [(160, 294), (161, 296), (162, 297), (163, 298), (164, 299), (165, 301), (166, 302), (167, 303), (168, 304), (169, 305), (170, 306), (171, 307), (172, 308), (173, 309), (174, 310), (175, 311), (176 + r, 312), (184 + r, 313)]
theorem ndA0 (r : Int) (h : r = 0 ∨ r = 1 ∨ r = 2 ∨ r = 3 ∨ r = 4 ∨ r = 5 ∨ r = 6 ∨ r = 7) : ((LA0 r).map Prod.fst).Nodup := by
  rcases h with rfl | rfl | rfl | rfl | rfl | rfl | rfl | rfl <;> decide
def ixA0 : List Nat := [1, 2, 3, 4, 5, 6, 7, 8, 9, 10, 11, 12, 13, 14, 15, 16, 19, 22]
def enA0 (r : Int) (i : Nat) : Int × Nat := ([(0, 0), (160, 294), (161, 296), (162, 297), (163, 298), (164, 299), (165, 301), (166, 302), (167, 303), (168, 304), (169, 305), (170, 306), (171, 307), (172, 308), (173, 309), (174, 310), (175, 311), (0, 0), (0, 0), (176 + r, 312), (0, 0), (0, 0), (184 + r, 313), (0, 0), (0, 0)] : List (Int × Nat)).getD i (0, 0)
def ffA0 : Array Bool := #[true, true, true, true, true, true, true, true, true, true, true, true, true, true, true, true, true, true, true, true, true, true, true, false, false]
theorem kyA0 (r : Int) (h : r = 0 ∨ r = 1 ∨ r = 2 ∨ r = 3 ∨ r = 4 ∨ r = 5 ∨ r = 6 ∨ r = 7) : ∀ i ∈ ixA0, ∀ j ∈ ixA0, (enA0 r i).1 = (enA0 r j).1 → i = j := by
  rcases h with rfl | rfl | rfl | rfl | rfl | rfl | rfl | rfl <;> decide
set_option maxHeartbeats 2000000 in
theorem fromA0_ok (w : World) (op : Int) (r : Int) (h : r = 0 ∨ r = 1 ∨ r = 2 ∨ r = 3 ∨ r = 4 ∨ r = 5 ∨ r = 6 ∨ r = 7) (hr : bits .and .i64 op 7 = r) (r0 : 0 ≤ r) (r1 : r < 8) :
    Calls Tryz.prog 137 #[.int .i64 op] w fun e w' => e = .returned (.map (some w.heap.size)) ∧ ∃ L, (∀ e, e ∈ L ↔ e ∈ LA0 r) ∧ (L.map Prod.fst).Nodup ∧ w' = md w L := by
  have hmm := @run_makeMap Tryz.prog
  have HK : Hid _ := kyA0 r h
  clear h
  go_enter Tryz.func137, Tryz.ntmps137
  go_wp2
  refine wp_region_any (by kernel_rfl) ?_
  refine wpAny_take (i := 17) (v := .int .i64 (r)) rfl (by kernel_rfl) (by kernel_rfl) (by kernel_rfl) (fun _ _ _ h => h) (Or.inl ⟨by rfl, by intro w; go_simp⟩) ?_
  refine wpAny_take (i := 18) (v := .int .i64 (176 + r)) rfl (by kernel_rfl) (by kernel_rfl) (by kernel_rfl) (fun _ _ _ h => h) (Or.inl ⟨by rfl, by intro w; go_simp; exact IntWalk.i64_in _ ⟨by omega, by omega⟩⟩) ?_
  refine wpAny_take (i := 20) (v := .int .i64 (r)) rfl (by kernel_rfl) (by kernel_rfl) (by kernel_rfl) (fun _ _ _ h => h) (Or.inl ⟨by rfl, by intro w; go_simp⟩) ?_
  refine wpAny_take (i := 21) (v := .int .i64 (184 + r)) rfl (by kernel_rfl) (by kernel_rfl) (by kernel_rfl) (fun _ _ _ h => h) (Or.inl ⟨by rfl, by intro w; go_simp; exact IntWalk.i64_in _ ⟨by omega, by omega⟩⟩) ?_
  refine wpAny_all (rs := [0]) (by kernel_rfl) (by simp) ?_
  intro i hi
  rw [List.mem_singleton] at hi
  subst hi
  refine step_make rfl rfl rfl rfl ?_
  refine ins_all (P := Tryz.prog) (md' := .any) _ w (enA0 r) ixA0 ffA0 _ (by kernel_rfl) rfl (by decide) HK.out (by kernel_rfl) (by kernel_rfl) ?_ 2 _ rfl ?_
  · intro i hi L K hL hK
    simp [ixA0] at hi
    rcases hi with rfl | rfl | rfl | rfl | rfl | rfl | rfl | rfl | rfl | rfl | rfl | rfl | rfl | rfl | rfl | rfl | rfl | rfl
    all_goals exact step_ins rfl rfl rfl rfl (by kernel_rfl) (by kernel_rfl) (by kernel_rfl) hL hK
  · intro L hL hLn
    refine wpAny_take (i := 23) (v := .map (some w.heap.size)) rfl (by kernel_rfl) (by kernel_rfl) (by kernel_rfl) (fun _ _ _ h => h) (Or.inl ⟨by rfl, by intro w; go_simp⟩) ?_
    refine wpAny_all (rs := [24]) (by kernel_rfl) (by simp) ?_
    intro i hi
    rw [List.mem_singleton] at hi
    subst hi
    refine step_put rfl rfl rfl ?_
    refine wpAny_done (by kernel_rfl) ?_ _
    have HL : Hid (∀ e, e ∈ L ↔ e ∈ LA0 r) := hL
    have HN : Hid _ := hLn
    clear hL hLn
    refine then_act (a := { tmps := #[.int .i64 op, undef, .map (some w.heap.size), .int .i64 r, .int .i64 op, .int .i64 r, .map (some w.heap.size), .int .i64 (r), .int .i64 (176 + r), .int .i64 (r), .int .i64 (184 + r), .map (some w.heap.size)], defers := [] }) (by kernel_rfl) ?_
    go_wp2
    go_ret
    exact ⟨rfl, L, HL.out, HN.out, rfl⟩
def LC0 : List (Int × Nat) := [(192, 314), (193, 316), (194, 317), (195, 319), (198, 321), (199, 322), (201, 323), (204, 324), (205, 325), (206, 326), (207, 327), (208, 328), (209, 329), (210, 330), (211, 332), (212, 333), (213, 334)]
theorem ndC0 : (LC0.map Prod.fst).Nodup := by decide
set_option maxHeartbeats 2000000 in
theorem fromC0_ok (w : World) :
    Calls Tryz.prog 138 #[] w fun e w' => e = .returned (.map (some w.heap.size)) ∧ w' = mp w (LC0) := by
  have hmm := @run_makeMap Tryz.prog
  have p0 : (Instr.mapUpdate 249 (.map (some w.heap.size)) (.int .i64 (192)) (.func (.func 314) #[] #[])).run Tryz.prog (w.alloc (.map #[] 0)) = .ok () (mp w ((LC0).take 1)) := put_take w (LC0) (ndC0) 0 (by simp [LC0])
  have p1 : (Instr.mapUpdate 249 (.map (some w.heap.size)) (.int .i64 (193)) (.func (.func 316) #[] #[])).run Tryz.prog (mp w ((LC0).take 1)) = .ok () (mp w ((LC0).take 2)) := put_take w (LC0) (ndC0) 1 (by simp [LC0])
  have p2 : (Instr.mapUpdate 249 (.map (some w.heap.size)) (.int .i64 (194)) (.func (.func 317) #[] #[])).run Tryz.prog (mp w ((LC0).take 2)) = .ok () (mp w ((LC0).take 3)) := put_take w (LC0) (ndC0) 2 (by simp [LC0])
  have p3 : (Instr.mapUpdate 249 (.map (some w.heap.size)) (.int .i64 (195)) (.func (.func 319) #[] #[])).run Tryz.prog (mp w ((LC0).take 3)) = .ok () (mp w ((LC0).take 4)) := put_take w (LC0) (ndC0) 3 (by simp [LC0])
  have p4 : (Instr.mapUpdate 249 (.map (some w.heap.size)) (.int .i64 (198)) (.func (.func 321) #[] #[])).run Tryz.prog (mp w ((LC0).take 4)) = .ok () (mp w ((LC0).take 5)) := put_take w (LC0) (ndC0) 4 (by simp [LC0])
  have p5 : (Instr.mapUpdate 249 (.map (some w.heap.size)) (.int .i64 (199)) (.func (.func 322) #[] #[])).run Tryz.prog (mp w ((LC0).take 5)) = .ok () (mp w ((LC0).take 6)) := put_take w (LC0) (ndC0) 5 (by simp [LC0])
  have p6 : (Instr.mapUpdate 249 (.map (some w.heap.size)) (.int .i64 (201)) (.func (.func 323) #[] #[])).run Tryz.prog (mp w ((LC0).take 6)) = .ok () (mp w ((LC0).take 7)) := put_take w (LC0) (ndC0) 6 (by simp [LC0])
  have p7 : (Instr.mapUpdate 249 (.map (some w.heap.size)) (.int .i64 (204)) (.func (.func 324) #[] #[])).run Tryz.prog (mp w ((LC0).take 7)) = .ok () (mp w ((LC0).take 8)) := put_take w (LC0) (ndC0) 7 (by simp [LC0])
  have p8 : (Instr.mapUpdate 249 (.map (some w.heap.size)) (.int .i64 (205)) (.func (.func 325) #[] #[])).run Tryz.prog (mp w ((LC0).take 8)) = .ok () (mp w ((LC0).take 9)) := put_take w (LC0) (ndC0) 8 (by simp [LC0])
  have p9 : (Instr.mapUpdate 249 (.map (some w.heap.size)) (.int .i64 (206)) (.func (.func 326) #[] #[])).run Tryz.prog (mp w ((LC0).take 9)) = .ok () (mp w ((LC0).take 10)) := put_take w (LC0) (ndC0) 9 (by simp [LC0])
  have p10 : (Instr.mapUpdate 249 (.map (some w.heap.size)) (.int .i64 (207)) (.func (.func 327) #[] #[])).run Tryz.prog (mp w ((LC0).take 10)) = .ok () (mp w ((LC0).take 11)) := put_take w (LC0) (ndC0) 10 (by simp [LC0])
  have p11 : (Instr.mapUpdate 249 (.map (some w.heap.size)) (.int .i64 (208)) (.func (.func 328) #[] #[])).run Tryz.prog (mp w ((LC0).take 11)) = .ok () (mp w ((LC0).take 12)) := put_take w (LC0) (ndC0) 11 (by simp [LC0])
  have p12 : (Instr.mapUpdate 249 (.map (some w.heap.size)) (.int .i64 (209)) (.func (.func 329) #[] #[])).run Tryz.prog (mp w ((LC0).take 12)) = .ok () (mp w ((LC0).take 13)) := put_take w (LC0) (ndC0) 12 (by simp [LC0])
  have p13 : (Instr.mapUpdate 249 (.map (some w.heap.size)) (.int .i64 (210)) (.func (.func 330) #[] #[])).run Tryz.prog (mp w ((LC0).take 13)) = .ok () (mp w ((LC0).take 14)) := put_take w (LC0) (ndC0) 13 (by simp [LC0])
  have p14 : (Instr.mapUpdate 249 (.map (some w.heap.size)) (.int .i64 (211)) (.func (.func 332) #[] #[])).run Tryz.prog (mp w ((LC0).take 14)) = .ok () (mp w ((LC0).take 15)) := put_take w (LC0) (ndC0) 14 (by simp [LC0])
  have p15 : (Instr.mapUpdate 249 (.map (some w.heap.size)) (.int .i64 (212)) (.func (.func 333) #[] #[])).run Tryz.prog (mp w ((LC0).take 15)) = .ok () (mp w ((LC0).take 16)) := put_take w (LC0) (ndC0) 15 (by simp [LC0])
  have p16 : (Instr.mapUpdate 249 (.map (some w.heap.size)) (.int .i64 (213)) (.func (.func 334) #[] #[])).run Tryz.prog (mp w ((LC0).take 16)) = .ok () (mp w (LC0)) := put_take w (LC0) (ndC0) 16 (by simp [LC0])
  go_enter Tryz.func138, Tryz.ntmps138
  go_wp2
  go_ret
  exact ⟨rfl, rfl⟩
def LE0 : List (Int × Nat) := [(224, 335), (225, 336), (226, 337), (227, 338), (228, 339), (229, 340), (230, 341), (231, 342), (232, 343), (233, 345), (234, 346), (235, 348), (236, 349), (237, 351), (238, 352), (239, 353), (244, 354), (245, 355), (246, 356), (247, 358), (248, 359), (249, 360), (250, 361), (251, 362), (252, 363), (253, 364), (254, 365), (255, 366)]
theorem ndE0 : (LE0.map Prod.fst).Nodup := by decide
set_option maxHeartbeats 2000000 in
theorem fromE0_ok (w : World) :
    Calls Tryz.prog 139 #[] w fun e w' => e = .returned (.map (some w.heap.size)) ∧ w' = mp w (LE0) := by
  have hmm := @run_makeMap Tryz.prog
  have p0 : (Instr.mapUpdate 249 (.map (some w.heap.size)) (.int .i64 (224)) (.func (.func 335) #[] #[])).run Tryz.prog (w.alloc (.map #[] 0)) = .ok () (mp w ((LE0).take 1)) := put_take w (LE0) (ndE0) 0 (by simp [LE0])
  have p1 : (Instr.mapUpdate 249 (.map (some w.heap.size)) (.int .i64 (225)) (.func (.func 336) #[] #[])).run Tryz.prog (mp w ((LE0).take 1)) = .ok () (mp w ((LE0).take 2)) := put_take w (LE0) (ndE0) 1 (by simp [LE0])
  have p2 : (Instr.mapUpdate 249 (.map (some w.heap.size)) (.int .i64 (226)) (.func (.func 337) #[] #[])).run Tryz.prog (mp w ((LE0).take 2)) = .ok () (mp w ((LE0).take 3)) := put_take w (LE0) (ndE0) 2 (by simp [LE0])
  have p3 : (Instr.mapUpdate 249 (.map (some w.heap.size)) (.int .i64 (227)) (.func (.func 338) #[] #[])).run Tryz.prog (mp w ((LE0).take 3)) = .ok () (mp w ((LE0).take 4)) := put_take w (LE0) (ndE0) 3 (by simp [LE0])
  have p4 : (Instr.mapUpdate 249 (.map (some w.heap.size)) (.int .i64 (228)) (.func (.func 339) #[] #[])).run Tryz.prog (mp w ((LE0).take 4)) = .ok () (mp w ((LE0).take 5)) := put_take w (LE0) (ndE0) 4 (by simp [LE0])
  have p5 : (Instr.mapUpdate 249 (.map (some w.heap.size)) (.int .i64 (229)) (.func (.func 340) #[] #[])).run Tryz.prog (mp w ((LE0).take 5)) = .ok () (mp w ((LE0).take 6)) := put_take w (LE0) (ndE0) 5 (by simp [LE0])
  have p6 : (Instr.mapUpdate 249 (.map (some w.heap.size)) (.int .i64 (230)) (.func (.func 341) #[] #[])).run Tryz.prog (mp w ((LE0).take 6)) = .ok () (mp w ((LE0).take 7)) := put_take w (LE0) (ndE0) 6 (by simp [LE0])
  have p7 : (Instr.mapUpdate 249 (.map (some w.heap.size)) (.int .i64 (231)) (.func (.func 342) #[] #[])).run Tryz.prog (mp w ((LE0).take 7)) = .ok () (mp w ((LE0).take 8)) := put_take w (LE0) (ndE0) 7 (by simp [LE0])
  have p8 : (Instr.mapUpdate 249 (.map (some w.heap.size)) (.int .i64 (232)) (.func (.func 343) #[] #[])).run Tryz.prog (mp w ((LE0).take 8)) = .ok () (mp w ((LE0).take 9)) := put_take w (LE0) (ndE0) 8 (by simp [LE0])
  have p9 : (Instr.mapUpdate 249 (.map (some w.heap.size)) (.int .i64 (233)) (.func (.func 345) #[] #[])).run Tryz.prog (mp w ((LE0).take 9)) = .ok () (mp w ((LE0).take 10)) := put_take w (LE0) (ndE0) 9 (by simp [LE0])
  have p10 : (Instr.mapUpdate 249 (.map (some w.heap.size)) (.int .i64 (234)) (.func (.func 346) #[] #[])).run Tryz.prog (mp w ((LE0).take 10)) = .ok () (mp w ((LE0).take 11)) := put_take w (LE0) (ndE0) 10 (by simp [LE0])
  have p11 : (Instr.mapUpdate 249 (.map (some w.heap.size)) (.int .i64 (235)) (.func (.func 348) #[] #[])).run Tryz.prog (mp w ((LE0).take 11)) = .ok () (mp w ((LE0).take 12)) := put_take w (LE0) (ndE0) 11 (by simp [LE0])
  have p12 : (Instr.mapUpdate 249 (.map (some w.heap.size)) (.int .i64 (236)) (.func (.func 349) #[] #[])).run Tryz.prog (mp w ((LE0).take 12)) = .ok () (mp w ((LE0).take 13)) := put_take w (LE0) (ndE0) 12 (by simp [LE0])
  have p13 : (Instr.mapUpdate 249 (.map (some w.heap.size)) (.int .i64 (237)) (.func (.func 351) #[] #[])).run Tryz.prog (mp w ((LE0).take 13)) = .ok () (mp w ((LE0).take 14)) := put_take w (LE0) (ndE0) 13 (by simp [LE0])
  have p14 : (Instr.mapUpdate 249 (.map (some w.heap.size)) (.int .i64 (238)) (.func (.func 352) #[] #[])).run Tryz.prog (mp w ((LE0).take 14)) = .ok () (mp w ((LE0).take 15)) := put_take w (LE0) (ndE0) 14 (by simp [LE0])
  have p15 : (Instr.mapUpdate 249 (.map (some w.heap.size)) (.int .i64 (239)) (.func (.func 353) #[] #[])).run Tryz.prog (mp w ((LE0).take 15)) = .ok () (mp w ((LE0).take 16)) := put_take w (LE0) (ndE0) 15 (by simp [LE0])
  have p16 : (Instr.mapUpdate 249 (.map (some w.heap.size)) (.int .i64 (244)) (.func (.func 354) #[] #[])).run Tryz.prog (mp w ((LE0).take 16)) = .ok () (mp w ((LE0).take 17)) := put_take w (LE0) (ndE0) 16 (by simp [LE0])
  have p17 : (Instr.mapUpdate 249 (.map (some w.heap.size)) (.int .i64 (245)) (.func (.func 355) #[] #[])).run Tryz.prog (mp w ((LE0).take 17)) = .ok () (mp w ((LE0).take 18)) := put_take w (LE0) (ndE0) 17 (by simp [LE0])
  have p18 : (Instr.mapUpdate 249 (.map (some w.heap.size)) (.int .i64 (246)) (.func (.func 356) #[] #[])).run Tryz.prog (mp w ((LE0).take 18)) = .ok () (mp w ((LE0).take 19)) := put_take w (LE0) (ndE0) 18 (by simp [LE0])
  have p19 : (Instr.mapUpdate 249 (.map (some w.heap.size)) (.int .i64 (247)) (.func (.func 358) #[] #[])).run Tryz.prog (mp w ((LE0).take 19)) = .ok () (mp w ((LE0).take 20)) := put_take w (LE0) (ndE0) 19 (by simp [LE0])
  have p20 : (Instr.mapUpdate 249 (.map (some w.heap.size)) (.int .i64 (248)) (.func (.func 359) #[] #[])).run Tryz.prog (mp w ((LE0).take 20)) = .ok () (mp w ((LE0).take 21)) := put_take w (LE0) (ndE0) 20 (by simp [LE0])
  have p21 : (Instr.mapUpdate 249 (.map (some w.heap.size)) (.int .i64 (249)) (.func (.func 360) #[] #[])).run Tryz.prog (mp w ((LE0).take 21)) = .ok () (mp w ((LE0).take 22)) := put_take w (LE0) (ndE0) 21 (by simp [LE0])
  have p22 : (Instr.mapUpdate 249 (.map (some w.heap.size)) (.int .i64 (250)) (.func (.func 361) #[] #[])).run Tryz.prog (mp w ((LE0).take 22)) = .ok () (mp w ((LE0).take 23)) := put_take w (LE0) (ndE0) 22 (by simp [LE0])
  have p23 : (Instr.mapUpdate 249 (.map (some w.heap.size)) (.int .i64 (251)) (.func (.func 362) #[] #[])).run Tryz.prog (mp w ((LE0).take 23)) = .ok () (mp w ((LE0).take 24)) := put_take w (LE0) (ndE0) 23 (by simp [LE0])
  have p24 : (Instr.mapUpdate 249 (.map (some w.heap.size)) (.int .i64 (252)) (.func (.func 363) #[] #[])).run Tryz.prog (mp w ((LE0).take 24)) = .ok () (mp w ((LE0).take 25)) := put_take w (LE0) (ndE0) 24 (by simp [LE0])
  have p25 : (Instr.mapUpdate 249 (.map (some w.heap.size)) (.int .i64 (253)) (.func (.func 364) #[] #[])).run Tryz.prog (mp w ((LE0).take 25)) = .ok () (mp w ((LE0).take 26)) := put_take w (LE0) (ndE0) 25 (by simp [LE0])
  have p26 : (Instr.mapUpdate 249 (.map (some w.heap.size)) (.int .i64 (254)) (.func (.func 365) #[] #[])).run Tryz.prog (mp w ((LE0).take 26)) = .ok () (mp w ((LE0).take 27)) := put_take w (LE0) (ndE0) 26 (by simp [LE0])
  have p27 : (Instr.mapUpdate 249 (.map (some w.heap.size)) (.int .i64 (255)) (.func (.func 366) #[] #[])).run Tryz.prog (mp w ((LE0).take 27)) = .ok () (mp w (LE0)) := put_take w (LE0) (ndE0) 27 (by simp [LE0])
  go_enter Tryz.func139, Tryz.ntmps139
  go_wp2
  go_ret
  exact ⟨rfl, rfl⟩
def L0F (r : Int) (c : Int) : List (Int × Nat) := [(3840, 367), (3841, 368), (3846, 369), (3872, 370), (3874, 373), (3904 + c, 374), (3968 + c, 375), (3984 + c, 376), (4000, 377), (4001, 378), (4003, 379), (4004, 380), (4005, 381), (4008, 382), (4009, 383), (4011, 384), (4012, 385), (4013, 386), (4015, 387), (4019, 388), (4022, 389), (4023, 391), (4026, 393), (4027, 394), (4028, 395), (4029, 396), (4030, 397), (4031, 398), (4040 + r, 399)]
theorem nd0F (r : Int) (c : Int) (h : r = 0 ∧ c = 0 ∨ r = 1 ∧ c = 1 ∨ r = 2 ∧ c = 2 ∨ r = 3 ∧ c = 3 ∨ r = 4 ∧ c = 4 ∨ r = 5 ∧ c = 5 ∨ r = 6 ∧ c = 6 ∨ r = 7 ∧ c = 7 ∨ r = 0 ∧ c = 8 ∨ r = 1 ∧ c = 9 ∨ r = 2 ∧ c = 10 ∨ r = 3 ∧ c = 11 ∨ r = 4 ∧ c = 12 ∨ r = 5 ∧ c = 13 ∨ r = 6 ∧ c = 14 ∨ r = 7 ∧ c = 15) : ((L0F r c).map Prod.fst).Nodup := by
  rcases h with ⟨rfl, rfl⟩ | ⟨rfl, rfl⟩ | ⟨rfl, rfl⟩ | ⟨rfl, rfl⟩ | ⟨rfl, rfl⟩ | ⟨rfl, rfl⟩ | ⟨rfl, rfl⟩ | ⟨rfl, rfl⟩ | ⟨rfl, rfl⟩ | ⟨rfl, rfl⟩ | ⟨rfl, rfl⟩ | ⟨rfl, rfl⟩ | ⟨rfl, rfl⟩ | ⟨rfl, rfl⟩ | ⟨rfl, rfl⟩ | ⟨rfl, rfl⟩ <;> decide
def ix0F : List Nat := [1, 2, 3, 4, 5, 8, 11, 14, 15, 16, 17, 18, 19, 20, 21, 22, 23, 24, 25, 26, 27, 28, 29, 30, 31, 32, 33, 34, 37]
def en0F (r : Int) (c : Int) (i : Nat) : Int × Nat := ([(0, 0), (3840, 367), (3841, 368), (3846, 369), (3872, 370), (3874, 373), (0, 0), (0, 0), (3904 + c, 374), (0, 0), (0, 0), (3968 + c, 375), (0, 0), (0, 0), (3984 + c, 376), (4000, 377), (4001, 378), (4003, 379), (4004, 380), (4005, 381), (4008, 382), (4009, 383), (4011, 384), (4012, 385), (4013, 386), (4015, 387), (4019, 388), (4022, 389), (4023, 391), (4026, 393), (4027, 394), (4028, 395), (4029, 396), (4030, 397), (4031, 398), (0, 0), (0, 0), (4040 + r, 399), (0, 0), (0, 0)] : List (Int × Nat)).getD i (0, 0)
def ff0F : Array Bool := #[true, true, true, true, true, true, true, true, true, true, true, true, true, true, true, true, true, true, true, true, true, true, true, true, true, true, true, true, true, true, true, true, true, true, true, true, true, true, false, false]
theorem ky0F (r : Int) (c : Int) (h : r = 0 ∧ c = 0 ∨ r = 1 ∧ c = 1 ∨ r = 2 ∧ c = 2 ∨ r = 3 ∧ c = 3 ∨ r = 4 ∧ c = 4 ∨ r = 5 ∧ c = 5 ∨ r = 6 ∧ c = 6 ∨ r = 7 ∧ c = 7 ∨ r = 0 ∧ c = 8 ∨ r = 1 ∧ c = 9 ∨ r = 2 ∧ c = 10 ∨ r = 3 ∧ c = 11 ∨ r = 4 ∧ c = 12 ∨ r = 5 ∧ c = 13 ∨ r = 6 ∧ c = 14 ∨ r = 7 ∧ c = 15) : ∀ i ∈ ix0F, ∀ j ∈ ix0F, (en0F r c i).1 = (en0F r c j).1 → i = j := by
  rcases h with ⟨rfl, rfl⟩ | ⟨rfl, rfl⟩ | ⟨rfl, rfl⟩ | ⟨rfl, rfl⟩ | ⟨rfl, rfl⟩ | ⟨rfl, rfl⟩ | ⟨rfl, rfl⟩ | ⟨rfl, rfl⟩ | ⟨rfl, rfl⟩ | ⟨rfl, rfl⟩ | ⟨rfl, rfl⟩ | ⟨rfl, rfl⟩ | ⟨rfl, rfl⟩ | ⟨rfl, rfl⟩ | ⟨rfl, rfl⟩ | ⟨rfl, rfl⟩ <;> decide
set_option maxHeartbeats 2000000 in
theorem from0F_ok (w : World) (op : Int) (r : Int) (c : Int) (h : r = 0 ∧ c = 0 ∨ r = 1 ∧ c = 1 ∨ r = 2 ∧ c = 2 ∨ r = 3 ∧ c = 3 ∨ r = 4 ∧ c = 4 ∨ r = 5 ∧ c = 5 ∨ r = 6 ∧ c = 6 ∨ r = 7 ∧ c = 7 ∨ r = 0 ∧ c = 8 ∨ r = 1 ∧ c = 9 ∨ r = 2 ∧ c = 10 ∨ r = 3 ∧ c = 11 ∨ r = 4 ∧ c = 12 ∨ r = 5 ∧ c = 13 ∨ r = 6 ∧ c = 14 ∨ r = 7 ∧ c = 15) (hr : bits .and .i64 op 7 = r) (r0 : 0 ≤ r) (r1 : r < 8) (hc : bits .and .i64 op 15 = c) (c0 : 0 ≤ c) (c1 : c < 16) :
    Calls Tryz.prog 140 #[.int .i64 op] w fun e w' => e = .returned (.map (some w.heap.size)) ∧ ∃ L, (∀ e, e ∈ L ↔ e ∈ L0F r c) ∧ (L.map Prod.fst).Nodup ∧ w' = md w L := by
  have hmm := @run_makeMap Tryz.prog
  have HK : Hid _ := ky0F r c h
  clear h
  go_enter Tryz.func140, Tryz.ntmps140
  go_wp2
  refine wp_region_any (by kernel_rfl) ?_
  refine wpAny_take (i := 6) (v := .int .i64 (c)) rfl (by kernel_rfl) (by kernel_rfl) (by kernel_rfl) (fun _ _ _ h => h) (Or.inl ⟨by rfl, by intro w; go_simp⟩) ?_
  refine wpAny_take (i := 7) (v := .int .i64 (3904 + c)) rfl (by kernel_rfl) (by kernel_rfl) (by kernel_rfl) (fun _ _ _ h => h) (Or.inl ⟨by rfl, by intro w; go_simp; exact IntWalk.i64_in _ ⟨by omega, by omega⟩⟩) ?_
  refine wpAny_take (i := 9) (v := .int .i64 (c)) rfl (by kernel_rfl) (by kernel_rfl) (by kernel_rfl) (fun _ _ _ h => h) (Or.inl ⟨by rfl, by intro w; go_simp⟩) ?_
  refine wpAny_take (i := 10) (v := .int .i64 (3968 + c)) rfl (by kernel_rfl) (by kernel_rfl) (by kernel_rfl) (fun _ _ _ h => h) (Or.inl ⟨by rfl, by intro w; go_simp; exact IntWalk.i64_in _ ⟨by omega, by omega⟩⟩) ?_
  refine wpAny_take (i := 12) (v := .int .i64 (c)) rfl (by kernel_rfl) (by kernel_rfl) (by kernel_rfl) (fun _ _ _ h => h) (Or.inl ⟨by rfl, by intro w; go_simp⟩) ?_
  refine wpAny_take (i := 13) (v := .int .i64 (3984 + c)) rfl (by kernel_rfl) (by kernel_rfl) (by kernel_rfl) (fun _ _ _ h => h) (Or.inl ⟨by rfl, by intro w; go_simp; exact IntWalk.i64_in _ ⟨by omega, by omega⟩⟩) ?_
  refine wpAny_take (i := 35) (v := .int .i64 (r)) rfl (by kernel_rfl) (by kernel_rfl) (by kernel_rfl) (fun _ _ _ h => h) (Or.inl ⟨by rfl, by intro w; go_simp⟩) ?_
  refine wpAny_take (i := 36) (v := .int .i64 (4040 + r)) rfl (by kernel_rfl) (by kernel_rfl) (by kernel_rfl) (fun _ _ _ h => h) (Or.inl ⟨by rfl, by intro w; go_simp; exact IntWalk.i64_in _ ⟨by omega, by omega⟩⟩) ?_
  refine wpAny_all (rs := [0]) (by kernel_rfl) (by simp) ?_
  intro i hi
  rw [List.mem_singleton] at hi
  subst hi
  refine step_make rfl rfl rfl rfl ?_
  refine ins_all (P := Tryz.prog) (md' := .any) _ w (en0F r c) ix0F ff0F _ (by kernel_rfl) rfl (by decide) HK.out (by kernel_rfl) (by kernel_rfl) ?_ 2 _ rfl ?_
  · intro i hi L K hL hK
    simp [ix0F] at hi
    rcases hi with rfl | rfl | rfl | rfl | rfl | rfl | rfl | rfl | rfl | rfl | rfl | rfl | rfl | rfl | rfl | rfl | rfl | rfl | rfl | rfl | rfl | rfl | rfl | rfl | rfl | rfl | rfl | rfl | rfl
    all_goals exact step_ins rfl rfl rfl rfl (by kernel_rfl) (by kernel_rfl) (by kernel_rfl) hL hK
  · intro L hL hLn
    refine wpAny_take (i := 38) (v := .map (some w.heap.size)) rfl (by kernel_rfl) (by kernel_rfl) (by kernel_rfl) (fun _ _ _ h => h) (Or.inl ⟨by rfl, by intro w; go_simp⟩) ?_
    refine wpAny_all (rs := [39]) (by kernel_rfl) (by simp) ?_
    intro i hi
    rw [List.mem_singleton] at hi
    subst hi
    refine step_put rfl rfl rfl ?_
    refine wpAny_done (by kernel_rfl) ?_ _
    have HL : Hid (∀ e, e ∈ L ↔ e ∈ L0F r c) := hL
    have HN : Hid _ := hLn
    clear hL hLn
    refine then_act (a := { tmps := #[.int .i64 op, undef, .map (some w.heap.size), .int .i64 r, .int .i64 c, .int .i64 op, .int .i64 r, .int .i64 op, .int .i64 c, .map (some w.heap.size), .int .i64 (c), .int .i64 (3904 + c), .int .i64 (c), .int .i64 (3968 + c), .int .i64 (c), .int .i64 (3984 + c), .int .i64 (r), .int .i64 (4040 + r), .map (some w.heap.size)], defers := [] }) (by kernel_rfl) ?_
    go_wp2
    go_ret
    exact ⟨rfl, L, HL.out, HN.out, rfl⟩
end Go.Proofs.YtiagfmkinefidaaGreat.Dc
namespace Go.Proofs.YtiagfmkinefidaaGreat.Dc
open Go.ChangeShapes Go.WideShapes Go.ChangeAt Go.RowKit
set_option linter.unusedVariables false
set_option maxRecDepth 20000
def rowOf (op : Int) : Option Nat :=
  if op / 32 = 0 ∨ op / 32 = 1 then look (L00 (op - op % 8)) op else if op / 32 = 2 ∨ op / 32 = 3 then look (L40 (op % 8) (op % 16)) op
  else if op / 32 = 4 then (if op = 144 then some 293 else look (L80 (op % 8)) op) else if op / 32 = 5 then look (LA0 (op % 8)) op
  else if op / 32 = 6 then look LC0 op else if op / 32 = 7 then look LE0 op else look (L0F (op % 8) (op % 16)) op
theorem andNot7 : ∀ k : Fin 64, bits .andNot .i64 ((k : Nat) : Int) 7 = ((k : Nat) : Int) - ((k : Nat) : Int) % 8 := by decide +kernel
theorem md_kp (w : World) (L : List (Int × Nat)) : Kp noB w (md w L) := (Kp.alloc _ _ _).drewN 1
theorem mp_kp (w : World) (L : List (Int × Nat)) : Kp noB w (mp w L) := Kp.alloc _ _ _
theorem look_upd9 {L : List (Int × Nat)} (n : (L.map Prod.fst).Nodup) (i : Int) : look (upd9 L) i = if i = 144 then some 293 else look L i := by
  unfold upd9
  split
  · rename_i h; exact look_upd L 144 _ i h
  · rename_i h
    have key : ∀ (M : List (Int × Nat)), (¬ ∃ e ∈ M, e.1 = 144) → look (M ++ [(144, 293)]) i = if i = 144 then some 293 else look M i := by
      intro M
      induction M with
      | nil => intro _; simp [look]
      | cons x r ih =>
        intro hM
        have hx : ¬ x.1 = 144 := fun e => hM ⟨x, by simp, e⟩
        have hr : ¬ ∃ e ∈ r, e.1 = 144 := fun ⟨e, he, hk⟩ => hM ⟨e, by simp [he], hk⟩
        simp only [List.cons_append, look, ih hr]
        by_cases hi : i = x.1
        · have : ¬ i = 144 := fun e => hx (by rw [← hi]; exact e)
          simp [hi, hx]
        · simp [hi]
    exact key L h
set_option maxHeartbeats 4000000 in
theorem find_ok (w : World) (op : Int) (h0 : 0 ≤ op) (h1 : op < 4096) :
    Calls Tryz.prog 89 #[.int .i64 op] w fun e w' => e = .returned (rvN (rowOf op)) ∧ Kp noB w w' := by
  obtain ⟨V, hV⟩ : ∃ V, V = rowOf op := ⟨_, rfl⟩
  rw [← hV]
  have HV : Hid (V = rowOf op) := hV
  clear hV
  have hr := and7 op
  have hc := and15 op
  obtain ⟨q, hq⟩ : ∃ q, op / 32 = q := ⟨_, rfl⟩
  have c8 : op % 8 = 0 ∨ op % 8 = 1 ∨ op % 8 = 2 ∨ op % 8 = 3 ∨ op % 8 = 4 ∨ op % 8 = 5 ∨ op % 8 = 6 ∨ op % 8 = 7 := by omega
  have c16 : (op % 8 = 0 ∧ op % 16 = 0) ∨ (op % 8 = 1 ∧ op % 16 = 1) ∨ (op % 8 = 2 ∧ op % 16 = 2) ∨ (op % 8 = 3 ∧ op % 16 = 3) ∨ (op % 8 = 4 ∧ op % 16 = 4) ∨ (op % 8 = 5 ∧ op % 16 = 5) ∨ (op % 8 = 6 ∧ op % 16 = 6) ∨ (op % 8 = 7 ∧ op % 16 = 7) ∨ (op % 8 = 0 ∧ op % 16 = 8) ∨ (op % 8 = 1 ∧ op % 16 = 9) ∨ (op % 8 = 2 ∧ op % 16 = 10) ∨ (op % 8 = 3 ∧ op % 16 = 11) ∨ (op % 8 = 4 ∧ op % 16 = 12) ∨ (op % 8 = 5 ∧ op % 16 = 13) ∨ (op % 8 = 6 ∧ op % 16 = 14) ∨ (op % 8 = 7 ∧ op % 16 = 15) := by
    have g : op % 16 = 0 ∨ op % 16 = 1 ∨ op % 16 = 2 ∨ op % 16 = 3 ∨ op % 16 = 4 ∨ op % 16 = 5 ∨ op % 16 = 6 ∨ op % 16 = 7 ∨ 8 ≤ op % 16 := by omega
    have g2 : 8 ≤ op % 16 → op % 16 = 8 ∨ op % 16 = 9 ∨ op % 16 = 10 ∨ op % 16 = 11 ∨ op % 16 = 12 ∨ op % 16 = 13 ∨ op % 16 = 14 ∨ op % 16 = 15 := by clear g c8; omega
    clear c8
    rcases g with g | g | g | g | g | g | g | g | g
    iterate 8
      · have e : op % 8 = op % 16 := by omega
        simp [e, g]
    · have e : op % 8 = op % 16 - 8 := by omega
      rcases g2 g with k | k | k | k | k | k | k | k <;> simp [e, k]
  have H8 : Hid _ := c8
  have H16 : Hid _ := c16
  clear c8 c16
  by_cases q01 : q = 0 ∨ q = 1
  · have ha : bits .andNot .i64 op 7 = op - op % 8 := by
      have e := andNot7 ⟨op.toNat, by omega⟩
      simp only [Int.toNat_of_nonneg h0] at e
      exact e
    have cF := from00_ok w op (op - op % 8) (by omega) ha (by omega) (by omega)
    have hVe : V = look (L00 (op - op % 8)) op := by rw [HV.out]; unfold rowOf; rw [hq, if_pos q01]
    have nd := nd00 (op - op % 8) (by omega)
    have HE : Hid _ := hVe
    have HN : Hid _ := nd
    clear hr hc ha hVe nd
    rcases q01 with rfl | rfl
    all_goals
      go_enter Tryz.func89, Tryz.ntmps89
      go_wp2_with fail
      refine cF.mono ?_; rintro e w1 ⟨rfl, L, hL, hn, hw⟩; subst hw
      have hlk := look_md w L op
      rw [look_same hL hn HN.out op, ← HE.out] at hlk
      have hk := md_kp w L
      clear hL hn cF
      go_wp2
      go_ret
      exact ⟨rfl, hk⟩
  by_cases q23 : q = 2 ∨ q = 3
  · have cF := from40_ok w op (op % 8) (op % 16) H16.out hr (by omega) (by omega) hc (by omega) (by omega)
    have hVe : V = look (L40 (op % 8) (op % 16)) op := by rw [HV.out]; unfold rowOf; rw [hq, if_neg q01, if_pos q23]
    have nd := nd40 (op % 8) (op % 16) H16.out
    have HE : Hid _ := hVe
    have HN : Hid _ := nd
    clear hr hc hVe nd q01
    rcases q23 with rfl | rfl
    all_goals
      go_enter Tryz.func89, Tryz.ntmps89
      go_wp2_with fail
      refine cF.mono ?_; rintro e w1 ⟨rfl, L, hL, hn, hw⟩; subst hw
      have hlk := look_md w L op
      rw [look_same hL hn HN.out op, ← HE.out] at hlk
      have hk := md_kp w L
      clear hL hn cF
      go_wp2
      go_ret
      exact ⟨rfl, hk⟩
  by_cases q4 : q = 4
  · subst q4
    have cF := from80_ok w op (op % 8) H8.out hr (by omega) (by omega)
    have hVe : V = if op = 144 then some 293 else look (L80 (op % 8)) op := by rw [HV.out]; unfold rowOf; rw [hq, if_neg q01, if_neg q23, if_pos rfl]
    have nd := nd80 (op % 8) H8.out
    have HE : Hid _ := hVe
    have HN : Hid _ := nd
    clear hr hc hVe nd q01 q23
    go_enter Tryz.func89, Tryz.ntmps89
    go_wp2_with fail
    refine cF.mono ?_; rintro e w1 ⟨rfl, L, hL, hn, hw⟩; subst hw
    have hlk := look_md w (upd9 L) op
    rw [look_upd9 hn, look_same hL hn HN.out op, ← HE.out] at hlk
    have hk := md_kp w (upd9 L)
    clear hL hn cF
    go_wp2
    go_ret
    exact ⟨rfl, hk⟩
  by_cases q5 : q = 5
  · subst q5
    have cF := fromA0_ok w op (op % 8) H8.out hr (by omega) (by omega)
    have hVe : V = look (LA0 (op % 8)) op := by rw [HV.out]; unfold rowOf; rw [hq, if_neg q01, if_neg q23, if_neg q4, if_pos rfl]
    have nd := ndA0 (op % 8) H8.out
    have HE : Hid _ := hVe
    have HN : Hid _ := nd
    clear hr hc hVe nd q01 q23 q4
    go_enter Tryz.func89, Tryz.ntmps89
    go_wp2_with fail
    refine cF.mono ?_; rintro e w1 ⟨rfl, L, hL, hn, hw⟩; subst hw
    have hlk := look_md w L op
    rw [look_same hL hn HN.out op, ← HE.out] at hlk
    have hk := md_kp w L
    clear hL hn cF
    go_wp2
    go_ret
    exact ⟨rfl, hk⟩
  by_cases q6 : q = 6
  · subst q6
    have cF := fromC0_ok w
    have hVe : V = look LC0 op := by rw [HV.out]; unfold rowOf; rw [hq, if_neg q01, if_neg q23, if_neg q4, if_neg q5, if_pos rfl]
    have HE : Hid _ := hVe
    clear hr hc hVe q01 q23 q4 q5
    go_enter Tryz.func89, Tryz.ntmps89
    go_wp2_with fail
    refine cF.mono ?_; rintro e w1 ⟨rfl, hw⟩; subst hw
    have hlk := look_mp w LC0 op
    rw [← HE.out] at hlk
    have hk := mp_kp w LC0
    clear cF
    go_wp2
    go_ret
    exact ⟨rfl, hk⟩
  by_cases q7 : q = 7
  · subst q7
    have cF := fromE0_ok w
    have hVe : V = look LE0 op := by rw [HV.out]; unfold rowOf; rw [hq, if_neg q01, if_neg q23, if_neg q4, if_neg q5, if_neg q6, if_pos rfl]
    have HE : Hid _ := hVe
    clear hr hc hVe q01 q23 q4 q5 q6
    go_enter Tryz.func89, Tryz.ntmps89
    go_wp2_with fail
    refine cF.mono ?_; rintro e w1 ⟨rfl, hw⟩; subst hw
    have hlk := look_mp w LE0 op
    rw [← HE.out] at hlk
    have hk := mp_kp w LE0
    clear cF
    go_wp2
    go_ret
    exact ⟨rfl, hk⟩
  · have cF := from0F_ok w op (op % 8) (op % 16) H16.out hr (by omega) (by omega) hc (by omega) (by omega)
    have hVe : V = look (L0F (op % 8) (op % 16)) op := by rw [HV.out]; unfold rowOf; rw [hq, if_neg q01, if_neg q23, if_neg q4, if_neg q5, if_neg q6, if_neg q7]
    have nd := nd0F (op % 8) (op % 16) H16.out
    have HE : Hid _ := hVe
    have HN : Hid _ := nd
    have n0 : (q == 0) = false := by simp; omega
    have n1 : (q == 1) = false := by simp; omega
    have n2 : (q == 2) = false := by simp; omega
    have n3 : (q == 3) = false := by simp; omega
    have n4 : (q == 4) = false := by simp; omega
    have n5 : (q == 5) = false := by simp; omega
    have n6 : (q == 6) = false := by simp; omega
    have n7 : (q == 7) = false := by simp; omega
    clear hr hc hVe nd q01 q23
    go_enter Tryz.func89, Tryz.ntmps89
    go_wp2_with fail
    refine cF.mono ?_; rintro e w1 ⟨rfl, L, hL, hn, hw⟩; subst hw
    have hlk := look_md w L op
    rw [look_same hL hn HN.out op, ← HE.out] at hlk
    have hk := md_kp w L
    clear hL hn cF
    go_wp2
    go_ret
    exact ⟨rfl, hk⟩
end Go.Proofs.YtiagfmkinefidaaGreat.Dc
namespace Go.Proofs.YtiagfmkinefidaaGreat.Dc
open Go.ChangeShapes Go.WideShapes Go.ChangeAt Go.RowKit
set_option linter.unusedVariables false
set_option maxRecDepth 20000
def insV (x : Ins) : Array Value := #[.int .i64 x.op, .int .i64 x.sub, .int .i64 x.size,
  .int .i64 x.a.kind, .int .i64 x.a.reg, .int .i64 x.a.size, .int .i64 x.a.seg, .int .i64 x.a.base, .int .i64 x.a.index, .int .i64 x.a.scale, .int .u32 x.a.disp, .int .u32 x.a.imm,
  .int .i64 x.b.kind, .int .i64 x.b.reg, .int .i64 x.b.size, .int .i64 x.b.seg, .int .i64 x.b.base, .int .i64 x.b.index, .int .i64 x.b.scale, .int .u32 x.b.disp, .int .u32 x.b.imm,
  .int .i64 x.c.kind, .int .i64 x.c.reg, .int .i64 x.c.size, .int .i64 x.c.seg, .int .i64 x.c.base, .int .i64 x.c.index, .int .i64 x.c.scale, .int .u32 x.c.disp, .int .u32 x.c.imm,
  .int .i64 x.rep, .int .i64 x.len]
theorem insV_size (x : Ins) : (insV x).size = 32 := rfl
/-- Bytes in memory. -/
def BytAt (w : World) (p : Option Addr) (L : Nat) (bt : Nat → Int) : Prop :=
  ∀ j, j < L → ∃ b o, p = some ⟨b, o, none⟩ ∧ b < w.heap.size ∧ w.cell? ⟨b, o + j, none⟩ = some (.int .u8 (bt j))
def TabOk (rl : Int → Option Rule) : Prop := ∀ op : Int, 0 ≤ op → op < 4096 → (rowOf op = none ∧ rl op = none) ∨ ∃ n r, rowOf op = some n ∧ rl op = some r ∧ RowOk n r
theorem take_bd' {X : Cx} (hb : ∀ j, j < X.L → 0 ≤ X.bt j ∧ X.bt j < 256) (σ : Sg) (h : σ.at' ≤ X.L) : (0 ≤ (take X σ).1 ∧ (take X σ).1 < 256) ∧ (take X σ).2.at' ≤ X.L := by
  unfold take
  split
  · exact ⟨⟨Int.le_refl _, by show (0 : Int) < 256; decide⟩, h⟩
  · split
    · exact ⟨⟨Int.le_refl _, by show (0 : Int) < 256; decide⟩, h⟩
    · split
      · exact ⟨⟨Int.le_refl _, by show (0 : Int) < 256; decide⟩, h⟩
      · exact ⟨hb _ (by omega), by show σ.at' + 1 ≤ X.L; omega⟩
theorem preL_bd {X : Cx} (hb : ∀ j, j < X.L → 0 ≤ X.bt j ∧ X.bt j < 256) : ∀ (n : Nat) (b : Int) (σ : Sg), σ.at' ≤ X.L → 0 ≤ b → b < 256 → (0 ≤ (preL X n b σ).1 ∧ (preL X n b σ).1 < 256) ∧ (preL X n b σ).2.at' ≤ X.L
  | 0, b, σ, h, b0, b1 => ⟨⟨b0, b1⟩, h⟩
  | n + 1, b, σ, h, b0, b1 => by
    unfold preL
    split
    · have t := take_bd' hb (preS b σ) (by rw [(preS_at b σ).1]; exact h)
      exact preL_bd hb n _ _ t.2 t.1.1 t.1.2
    · exact ⟨⟨b0, b1⟩, h⟩
theorem opcodeM_bd {X : Cx} (hb : ∀ j, j < X.L → 0 ≤ X.bt j ∧ X.bt j < 256) (σ : Sg) (h : σ.at' ≤ X.L) : 0 ≤ (opcodeM X σ).1 ∧ (opcodeM X σ).1 < 4096 := by
  have t := take_bd' hb σ h
  have p := preL_bd hb 16 _ _ t.2 t.1.1 t.1.2
  have q := take_bd' hb _ p.2
  unfold opcodeM
  simp only
  split
  · exact ⟨by show 0 ≤ 3840 + _; omega, by show 3840 + _ < 4096; omega⟩
  · exact ⟨p.1.1, by omega⟩
theorem inst_u : Tryz.prog.underlying 40 = some (.struct (match Tryz.prog.underlying 40 with | some (.struct f) => f | _ => default)) := by kernel_rfl
theorem inst_s : (Tryz.prog.info? 40).map (·.size) = some 32 := by kernel_rfl
theorem range_frm {X : Cx} {w : World} {σ : Sg} (h : St X w σ) : w.rangeAt X.F 7 (insV σ.ins).toList := by
  intro j v hv
  obtain ⟨fp, g, _⟩ := h.frm
  have hj : j < 32 := by
    have := (List.getElem?_eq_some_iff.1 hv).1
    simpa [insV] using this
  have e : (frmC X σ fp)[7 + j]? = (insV σ.ins)[j]? := by
    have key : ∀ k : Fin 32, (frmC X σ fp)[7 + k.val]? = (insV σ.ins)[k.val]? := by
      intro k
      match k with
      | ⟨0, _⟩ => rfl | ⟨1, _⟩ => rfl | ⟨2, _⟩ => rfl | ⟨3, _⟩ => rfl | ⟨4, _⟩ => rfl | ⟨5, _⟩ => rfl | ⟨6, _⟩ => rfl | ⟨7, _⟩ => rfl
      | ⟨8, _⟩ => rfl | ⟨9, _⟩ => rfl | ⟨10, _⟩ => rfl | ⟨11, _⟩ => rfl | ⟨12, _⟩ => rfl | ⟨13, _⟩ => rfl | ⟨14, _⟩ => rfl | ⟨15, _⟩ => rfl
      | ⟨16, _⟩ => rfl | ⟨17, _⟩ => rfl | ⟨18, _⟩ => rfl | ⟨19, _⟩ => rfl | ⟨20, _⟩ => rfl | ⟨21, _⟩ => rfl | ⟨22, _⟩ => rfl | ⟨23, _⟩ => rfl
      | ⟨24, _⟩ => rfl | ⟨25, _⟩ => rfl | ⟨26, _⟩ => rfl | ⟨27, _⟩ => rfl | ⟨28, _⟩ => rfl | ⟨29, _⟩ => rfl | ⟨30, _⟩ => rfl | ⟨31, _⟩ => rfl
      | ⟨n + 32, h⟩ => omega
    exact key ⟨j, hj⟩
  show w.cell? ⟨X.F, 7 + j, none⟩ = some v
  rw [cell_of_row w X.F (7 + j) _ _ _ g, e, ← Array.getElem?_toList]
  exact hv
theorem one_insV (x : Ins) : ∀ v ∈ (insV x).toList, v.oneCell' = true := by
  intro v hv
  simp only [insV, List.mem_cons, List.not_mem_nil, or_false] at hv
  rcases hv with rfl | rfl | rfl | rfl | rfl | rfl | rfl | rfl | rfl | rfl | rfl | rfl | rfl | rfl | rfl | rfl | rfl | rfl | rfl | rfl | rfl | rfl | rfl | rfl | rfl | rfl | rfl | rfl | rfl | rfl | rfl | rfl <;> rfl
/-- A whole instruction into a block of its own. -/
theorem put_ins {w : World} {q : Nat} {c : Array Value} (h : w.heap[q]? = some (.cells c 40 (0, 0))) (hc : c.size = 32) (x : Ins) : (storeCells ⟨q, 0, none⟩ (insV x).toList).run Tryz.prog w = .ok () (w.setRow q (insV x)) := by
  have r := run_storeCells_at Tryz.prog q 0 40 (insV x).toList 0 c w h (by simp [hc, insV_size]) (one_insV x)
  rw [r]
  have e : (List.take (0 + 0) c.toList ++ (insV x).toList ++ List.drop (0 + 0 + (insV x).toList.length) c.toList).toArray = insV x := by
    have h1 : List.drop (0 + 0 + (insV x).toList.length) c.toList = [] := List.drop_eq_nil_of_le (by simp [hc, insV_size])
    rw [h1]
    simp
  rw [e]
theorem got_ins {w : World} {q : Nat} {c : Array Value} (h : w.heap[q]? = some (.cells c 40 (0, 0))) (x : Ins) : (w.setRow q (insV x)).heap[q]? = some (.cells (insV x) 40 (0, 0)) := setRow_heap w q _ _ _ _ h
theorem load_ins {w : World} {q : Nat} {c : Array Value} (h : w.heap[q]? = some (.cells c 40 (0, 0))) (hc : c.size = 32) : (loadVar 40 ⟨q, 0, none⟩).run Tryz.prog w = .ok (.agg c) w :=
  run_loadVar_row w q _ _ _ _ _ h inst_u rfl (by rw [hc]; exact inst_s)
theorem setLen_frm {X : Cx} {w : World} {σ : Sg} (h : St X w σ) (n : Int) : St X (w.setCell ⟨X.F, 38, none⟩ (.int .i64 n)) { σ with ins := { σ.ins with len := n } } :=
  h.setF 38 _ (fun _ => rfl) rfl rfl rfl ⟨h.gd.op0, h.gd.op1, h.gd.vv, h.gd.fb⟩
theorem St.f38 {X : Cx} {w : World} {σ : Sg} (h : St X w σ) : w.cell? ⟨X.F, 38, none⟩ = some (.int .i64 σ.ins.len) := by
  obtain ⟨fp, h1, _⟩ := h.frm
  simp [World.cell?, h1, frmC]
theorem St.start (w : World) (p : Option Addr) (cap L : Nat) (bt : Nat → Int) (hL : L ≤ 4611686018427387904) (hb : BytAt w p L bt) (hbd : ∀ j, j < L → 0 ≤ bt j ∧ bt j < 256) :
    St ⟨w.heap.size + 1, w.heap.size + 1 + 1, p, cap, L, bt, w.heap.size⟩
      (((w.alloc (.cells (insV Ins.zero) 40)).alloc (.cells #[.slice p L cap, .int .i64 0, .int .i64 0] 198)).alloc (.cells (frmC ⟨w.heap.size + 1, w.heap.size + 1 + 1, p, cap, L, bt, w.heap.size⟩ sg0 (.pointer none)) 203)) sg0 := by
  obtain ⟨w1, hw1⟩ : ∃ w1, w1 = w.alloc (.cells (insV Ins.zero) 40) := ⟨_, rfl⟩
  have hs : w1.heap.size = w.heap.size + 1 := by rw [hw1]; simp
  rw [← hw1]
  have k1 : Kp noB w w1 := by rw [hw1]; exact Kp.alloc _ _ _
  have kk : Kp noB w ((w1.alloc (.cells #[.slice p L cap, .int .i64 0, .int .i64 0] 198)).alloc (.cells (frmC ⟨w.heap.size + 1, w.heap.size + 1 + 1, p, cap, L, bt, w.heap.size⟩ sg0 (.pointer none)) 203)) := (k1.trans (Kp.alloc _ _ _)).trans (Kp.alloc _ _ _)
  refine ⟨by show w.heap.size + 1 ≠ w.heap.size + 1 + 1; omega, ?_, ⟨.pointer none, ?_, rfl⟩, ?_, hbd, hL, by show 0 ≤ 15; omega, by show 0 ≤ L; omega, by show w.heap.size ≤ w.heap.size + 1; omega, by show w.heap.size ≤ w.heap.size + 1 + 1; omega, ⟨by decide, by decide, Or.inr rfl, fun _ _ _ h => by cases h⟩⟩
  · show _[w.heap.size + 1]? = _
    rw [← hs]
    exact heap_kept (S := noB) (MapKept.heap_alloc w1 _).1 (Kp.alloc _ _ _) id
  · show _[w.heap.size + 1 + 1]? = _
    rw [← hs]
    exact heap2 w1 _ _
  · intro j hj
    obtain ⟨b, o, e, hb1, hc⟩ := hb j hj
    exact ⟨b, o, e, hb1, cell_kept hc kk id⟩
end Go.Proofs.YtiagfmkinefidaaGreat.Dc
