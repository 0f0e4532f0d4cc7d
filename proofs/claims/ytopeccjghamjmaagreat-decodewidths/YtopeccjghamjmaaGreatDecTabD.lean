/- The table of rules as data. -/
import Derived.Test.YtopeccjghamjmaaGreatDecData
import Derived.Test.YtopeccjghamjmaaGreatDecFind
namespace Go.Proofs.YtopeccjghamjmaaGreat
open Go.ChangeShapes Go.WideShapes Go.ChangeAt Go.RowKit
set_option linter.unusedVariables false
set_option maxRecDepth 100000

/-- The function of a row, and what the row says. -/
def tab : List (Nat × Rule) := [
  (37, .row ⟨.no, 1, .opn, (.k 1), [.E, .G]⟩),
  (45, .row ⟨.no, 1, .opn, (.k 1), [.A, .I]⟩),
  (52, .row ⟨.no, 12, (.k 0), .v, [.Seg 2]⟩),
  (56, .row ⟨.no, 13, (.k 0), .v, [.Seg 3]⟩),
  (60, .row ⟨.no, 7, (.k 3), (.k 1), []⟩),
  (65, .row ⟨.no, 13, (.k 0), .v, [.R]⟩),
  (69, .row ⟨.no, 5, (.k 0), .v, [.G, .E, .I]⟩),
  (76, .row ⟨.no, 1, .mn, (.k 1), [.E, .I]⟩),
  (81, .row ⟨.no, 1, (.k 8), .v, [.E, .G]⟩),
  (85, .row ⟨.no, 8, (.k 0), .v, [.E, .G]⟩),
  (93, .row ⟨.no, 10, (.k 0), .v, [.R, .A]⟩),
  (97, .row ⟨.no, 17, (.k 0), .v, []⟩),
  (101, .row ⟨.no, 8, (.k 0), (.k 1), [.A, .O]⟩),
  (106, .str 0 (.k 1)),
  (111, .row ⟨.no, 1, (.k 8), (.k 1), [.A, .I]⟩),
  (115, .str 3 (.k 1)),
  (119, .row ⟨.no, 8, (.k 0), (.k 1), [.R, .I]⟩),
  (124, .row ⟨.no, 30, (.k 0), .v, [.Iw]⟩),
  (130, .row ⟨.no, 35, (.k 0), .v, []⟩),
  (134, .row ⟨.no, 33, (.k 0), .v, []⟩),
  (139, .row ⟨.no, 2, .mn, .v, [.E, .CL]⟩),
  (143, .row ⟨.no, 31, (.k 1), .v, [.Jb]⟩),
  (147, .row ⟨.no, 37, (.k 0), .v, [.A, .Ib]⟩),
  (152, .row ⟨.no, 27, (.k 0), .v, [.J]⟩),
  (158, .row ⟨.no, 37, (.k 0), .v, [.A, .DX]⟩),
  (162, .row ⟨.no, 39, (.k 2), (.k 4), []⟩),
  (169, .row ⟨.no, 39, (.k 6), (.k 4), []⟩),
  (174, .row ⟨(.only [3]), 44, (.k 0), (.k 2), [.E]⟩),
  (181, .row ⟨.no, 26, .opc, .v, [.G, .E]⟩),
  (185, .row ⟨.no, 13, (.k 0), .v, [.Seg 4]⟩),
  (189, .row ⟨.no, 12, (.k 0), .v, [.Seg 5]⟩),
  (193, .row ⟨.no, 3, (.k 1), .v, [.E, .G, .CL]⟩),
  (198, .row ⟨.no, 9, (.k 0), .v, [.G, .Ew]⟩),
  (204, .row ⟨.no, 9, (.k 1), .v, [.G, .Eb]⟩),
  (42, .row ⟨.no, 1, .opn, .v, [.E, .G]⟩),
  (48, .row ⟨.no, 1, .opn, .v, [.A, .I]⟩),
  (53, .row ⟨.no, 12, (.k 0), .v, [.Seg 3]⟩),
  (57, .row ⟨.no, 7, (.k 0), (.k 1), []⟩),
  (61, .row ⟨.no, 1, (.k 9), .v, [.R]⟩),
  (66, .row ⟨.no, 14, (.k 0), .v, []⟩),
  (70, .row ⟨.no, 12, (.k 0), .v, [.Is]⟩),
  (78, .row ⟨.no, 1, .mn, .v, [.E, .I]⟩),
  (82, .row ⟨.no, 10, (.k 0), (.k 1), [.E, .G]⟩),
  (86, .row ⟨.no, 8, (.k 0), (.k 1), [.G, .E]⟩),
  (94, .row ⟨.no, 20, (.k 0), .v, []⟩),
  (98, .row ⟨.no, 18, (.k 0), (.k 1), []⟩),
  (103, .row ⟨.no, 8, (.k 0), .v, [.A, .O]⟩),
  (108, .str 0 .v),
  (112, .row ⟨.no, 1, (.k 8), .v, [.A, .I]⟩),
  (116, .str 3 .v),
  (120, .row ⟨.no, 8, (.k 0), .v, [.R, .I]⟩),
  (126, .row ⟨.no, 30, (.k 0), .v, [.Num 0]⟩),
  (131, .row ⟨.no, 32, (.k 1), (.k 4), [.Num 3]⟩),
  (135, .row ⟨.no, 2, .mn, (.k 1), [.E, .Num 1]⟩),
  (140, .row ⟨.no, 7, (.k 4), (.k 1), [.I]⟩),
  (144, .row ⟨.no, 31, (.k 2), .v, [.Jb]⟩),
  (148, .row ⟨.no, 38, (.k 0), (.k 1), [.Ib, .A]⟩),
  (153, .row ⟨.no, 34, (.k 0), .v, [.Far]⟩),
  (159, .row ⟨.no, 38, (.k 0), (.k 1), [.DX, .A]⟩),
  (166, .row ⟨.no, 39, (.k 0), (.k 4), []⟩),
  (170, .row ⟨.no, 39, (.k 3), (.k 4), []⟩),
  (176, .row ⟨.no, 47, (.k 0), (.k 4), []⟩),
  (182, .row ⟨.no, 28, .opc, .v, [.J]⟩),
  (186, .row ⟨.no, 23, (.k 0), .v, [.E, .G]⟩),
  (190, .row ⟨.no, 13, (.k 0), .v, [.Seg 5]⟩),
  (194, .row ⟨.no, 5, (.k 0), .v, [.G, .E]⟩),
  (201, .row ⟨.no, 23, (.k 3), .v, [.E, .G]⟩),
  (205, .row ⟨.no, 9, (.k 1), .v, [.G, .Ew]⟩),
  (43, .row ⟨.no, 1, .opn, (.k 1), [.G, .E]⟩),
  (49, .row ⟨.no, 12, (.k 0), .v, [.Seg 0]⟩),
  (54, .row ⟨.no, 13, (.k 0), .v, [.Seg 0]⟩),
  (58, .row ⟨.no, 7, (.k 1), (.k 1), []⟩),
  (63, .row ⟨.no, 1, (.k 10), .v, [.R]⟩),
  (67, .row ⟨.no, 15, (.k 0), .v, []⟩),
  (72, .row ⟨.no, 5, (.k 0), .v, [.G, .E, .Is]⟩),
  (79, .row ⟨.no, 1, .mn, .v, [.E, .Is]⟩),
  (83, .row ⟨.no, 10, (.k 0), .v, [.E, .G]⟩),
  (87, .row ⟨.no, 8, (.k 0), .v, [.G, .E]⟩),
  (95, .row ⟨.no, 21, (.k 0), .v, []⟩),
  (99, .row ⟨.no, 19, (.k 0), (.k 1), []⟩),
  (104, .row ⟨.no, 8, (.k 0), (.k 1), [.O, .A]⟩),
  (109, .str 1 (.k 1)),
  (113, .str 2 (.k 1)),
  (117, .str 4 (.k 1)),
  (121, .row ⟨.no, 2, .mn, (.k 1), [.E, .Ib]⟩),
  (128, .row ⟨(.only [0]), 8, (.k 0), (.k 1), [.E, .I]⟩),
  (132, .row ⟨.no, 32, (.k 0), (.k 4), [.Ib]⟩),
  (136, .row ⟨.no, 2, .mn, .v, [.E, .Num 1]⟩),
  (141, .row ⟨.no, 7, (.k 5), (.k 1), [.I]⟩),
  (145, .row ⟨.no, 31, (.k 3), .v, [.Jb]⟩),
  (149, .row ⟨.no, 38, (.k 0), .v, [.Ib, .A]⟩),
  (155, .row ⟨.no, 27, (.k 0), .v, [.Jb]⟩),
  (160, .row ⟨.no, 38, (.k 0), .v, [.DX, .A]⟩),
  (167, .row ⟨.no, 39, (.k 1), (.k 4), []⟩),
  (171, .row ⟨.no, 39, (.k 4), (.k 4), []⟩),
  (177, .row ⟨(.only [0, 2, 3]), 45, (.k 0), (.k 4), [.Rm, .Cr]⟩),
  (183, .row ⟨.no, 25, .opc, (.k 1), [.E]⟩),
  (187, .row ⟨.no, 3, (.k 0), .v, [.E, .G, .Ib]⟩),
  (191, .row ⟨.no, 23, (.k 1), .v, [.E, .G]⟩),
  (195, .row ⟨.no, 23, (.k 2), .v, [.E, .G]⟩),
  (202, .row ⟨.no, 24, (.k 0), .v, [.G, .E]⟩),
  (206, .row ⟨.no, 22, (.k 0), (.k 4), [.R]⟩),
  (44, .row ⟨.no, 1, .opn, .v, [.G, .E]⟩),
  (51, .row ⟨.no, 12, (.k 0), .v, [.Seg 1]⟩),
  (55, .row ⟨.no, 13, (.k 0), .v, [.Seg 2]⟩),
  (59, .row ⟨.no, 7, (.k 2), (.k 1), []⟩),
  (64, .row ⟨.no, 12, (.k 0), .v, [.R]⟩),
  (68, .row ⟨.no, 12, (.k 0), .v, [.I]⟩),
  (73, .row ⟨.no, 28, .opc, .v, [.Jb]⟩),
  (80, .row ⟨.no, 1, (.k 8), (.k 1), [.E, .G]⟩),
  (84, .row ⟨.no, 8, (.k 0), (.k 1), [.E, .G]⟩),
  (91, .row ⟨(.only [0]), 13, (.k 0), .v, [.E]⟩),
  (96, .row ⟨.no, 16, (.k 0), .v, []⟩),
  (100, .row ⟨.no, 41, (.k 0), (.k 4), []⟩),
  (105, .row ⟨.no, 8, (.k 0), .v, [.O, .A]⟩),
  (110, .str 1 .v),
  (114, .str 2 .v),
  (118, .str 4 .v),
  (123, .row ⟨.no, 2, .mn, .v, [.E, .Ib]⟩),
  (129, .row ⟨(.only [0]), 8, (.k 0), .v, [.E, .I]⟩),
  (133, .row ⟨.no, 32, (.k 2), (.k 4), [.Num 4]⟩),
  (137, .row ⟨.no, 2, .mn, (.k 1), [.E, .CL]⟩),
  (142, .row ⟨.no, 31, (.k 0), .v, [.Jb]⟩),
  (146, .row ⟨.no, 37, (.k 0), (.k 1), [.A, .Ib]⟩),
  (150, .row ⟨.no, 29, (.k 0), .v, [.J]⟩),
  (156, .row ⟨.no, 37, (.k 0), (.k 1), [.A, .DX]⟩),
  (161, .row ⟨.no, 40, (.k 0), (.k 4), []⟩),
  (168, .row ⟨.no, 39, (.k 5), (.k 4), []⟩),
  (172, .row ⟨(.only [0, 1]), 1, .mp9, (.k 1), [.E]⟩),
  (180, .row ⟨(.only [0, 2, 3]), 45, (.k 0), (.k 4), [.Cr, .Rm]⟩),
  (184, .row ⟨.no, 12, (.k 0), .v, [.Seg 4]⟩),
  (188, .row ⟨.no, 3, (.k 0), .v, [.E, .G, .CL]⟩),
  (192, .row ⟨.no, 3, (.k 1), .v, [.E, .G, .Ib]⟩),
  (196, .row ⟨.no, 9, (.k 0), .v, [.G, .Eb]⟩),
  (203, .row ⟨.no, 24, (.k 1), .v, [.G, .E]⟩),
  (200, .row ⟨(.only [4, 5, 6, 7]), 23, .mm4, .v, [.E, .Ib]⟩),
  (163, .un (.k 1)),
  (165, .un .v),
  (173, .ff),
  (175, .sys),
  (89, .row ⟨.mem, 11, .k 0, .v, [.G, .E]⟩),
  (90, .to),
  (88, .frm)]

def lookN (L : List (Nat × Rule)) (n : Nat) : Option Rule := match L with | [] => none | e :: r => if n = e.1 then some e.2 else lookN r n

theorem lookN_mem : ∀ (L : List (Nat × Rule)) (n : Nat) (r : Rule), lookN L n = some r → (n, r) ∈ L
  | [], _, _, h => by cases h
  | e :: L, n, r, h => by
    unfold lookN at h
    by_cases he : n = e.1
    · rw [if_pos he] at h
      injection h with h
      subst he h
      exact List.mem_cons_self
    · rw [if_neg he] at h
      exact List.mem_cons_of_mem _ (lookN_mem L n r h)

/-- An opcode's rule. -/
def ruleOf (op : Int) : Option Rule := (rowOf op).bind (lookN tab)

theorem ruleOf_all : ∀ k : Fin 4096, (rowOf ((k : Nat) : Int)).all (fun n => (lookN tab n).isSome) = true := by decide +kernel

theorem ruleOf_in {op : Int} {r : Rule} (h : ruleOf op = some r) : ∃ n, (n, r) ∈ tab := by
  unfold ruleOf at h
  cases hr : rowOf op with
  | none => rw [hr] at h; cases h
  | some n => rw [hr] at h; exact ⟨n, lookN_mem _ _ _ h⟩

end Go.Proofs.YtopeccjghamjmaaGreat
