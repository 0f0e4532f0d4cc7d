/- The table of rules as data. -/
import Derived.Test.YtolnaodlghahlaaGreatDoorDecData
import Derived.Test.YtolnaodlghahlaaGreatDoorDecFind
namespace Go.Proofs.YtolnaodlghahlaaGreatDoor
open Go.ChangeShapes Go.WideShapes Go.ChangeAt Go.RowKit
set_option linter.unusedVariables false
set_option maxRecDepth 100000

/-- The function of a row, and what the row says. -/
def tab : List (Nat × Rule) := [
  (63, .row ⟨.no, 1, .opn, (.k 1), [.E, .G]⟩),
  (71, .row ⟨.no, 1, .opn, (.k 1), [.A, .I]⟩),
  (78, .row ⟨.no, 12, (.k 0), .v, [.Seg 2]⟩),
  (82, .row ⟨.no, 13, (.k 0), .v, [.Seg 3]⟩),
  (86, .row ⟨.no, 7, (.k 3), (.k 1), []⟩),
  (91, .row ⟨.no, 13, (.k 0), .v, [.R]⟩),
  (95, .row ⟨.no, 5, (.k 0), .v, [.G, .E, .I]⟩),
  (102, .row ⟨.no, 1, .mn, (.k 1), [.E, .I]⟩),
  (107, .row ⟨.no, 1, (.k 8), .v, [.E, .G]⟩),
  (111, .row ⟨.no, 8, (.k 0), .v, [.E, .G]⟩),
  (119, .row ⟨.no, 10, (.k 0), .v, [.R, .A]⟩),
  (123, .row ⟨.no, 17, (.k 0), .v, []⟩),
  (127, .row ⟨.no, 8, (.k 0), (.k 1), [.A, .O]⟩),
  (132, .str 0 (.k 1)),
  (137, .row ⟨.no, 1, (.k 8), (.k 1), [.A, .I]⟩),
  (141, .str 3 (.k 1)),
  (145, .row ⟨.no, 8, (.k 0), (.k 1), [.R, .I]⟩),
  (150, .row ⟨.no, 30, (.k 0), .v, [.Iw]⟩),
  (156, .row ⟨.no, 35, (.k 0), .v, []⟩),
  (160, .row ⟨.no, 33, (.k 0), .v, []⟩),
  (165, .row ⟨.no, 2, .mn, .v, [.E, .CL]⟩),
  (169, .row ⟨.no, 31, (.k 1), .v, [.Jb]⟩),
  (173, .row ⟨.no, 37, (.k 0), .v, [.A, .Ib]⟩),
  (178, .row ⟨.no, 27, (.k 0), .v, [.J]⟩),
  (184, .row ⟨.no, 37, (.k 0), .v, [.A, .DX]⟩),
  (188, .row ⟨.no, 39, (.k 2), (.k 4), []⟩),
  (195, .row ⟨.no, 39, (.k 6), (.k 4), []⟩),
  (200, .row ⟨(.only [3]), 44, (.k 0), (.k 2), [.E]⟩),
  (207, .row ⟨.no, 26, .opc, .v, [.G, .E]⟩),
  (211, .row ⟨.no, 13, (.k 0), .v, [.Seg 4]⟩),
  (215, .row ⟨.no, 12, (.k 0), .v, [.Seg 5]⟩),
  (219, .row ⟨.no, 3, (.k 1), .v, [.E, .G, .CL]⟩),
  (224, .row ⟨.no, 9, (.k 0), .v, [.G, .Ew]⟩),
  (230, .row ⟨.no, 9, (.k 1), .v, [.G, .Eb]⟩),
  (68, .row ⟨.no, 1, .opn, .v, [.E, .G]⟩),
  (74, .row ⟨.no, 1, .opn, .v, [.A, .I]⟩),
  (79, .row ⟨.no, 12, (.k 0), .v, [.Seg 3]⟩),
  (83, .row ⟨.no, 7, (.k 0), (.k 1), []⟩),
  (87, .row ⟨.no, 1, (.k 9), .v, [.R]⟩),
  (92, .row ⟨.no, 14, (.k 0), .v, []⟩),
  (96, .row ⟨.no, 12, (.k 0), .v, [.Is]⟩),
  (104, .row ⟨.no, 1, .mn, .v, [.E, .I]⟩),
  (108, .row ⟨.no, 10, (.k 0), (.k 1), [.E, .G]⟩),
  (112, .row ⟨.no, 8, (.k 0), (.k 1), [.G, .E]⟩),
  (120, .row ⟨.no, 20, (.k 0), .v, []⟩),
  (124, .row ⟨.no, 18, (.k 0), (.k 1), []⟩),
  (129, .row ⟨.no, 8, (.k 0), .v, [.A, .O]⟩),
  (134, .str 0 .v),
  (138, .row ⟨.no, 1, (.k 8), .v, [.A, .I]⟩),
  (142, .str 3 .v),
  (146, .row ⟨.no, 8, (.k 0), .v, [.R, .I]⟩),
  (152, .row ⟨.no, 30, (.k 0), .v, [.Num 0]⟩),
  (157, .row ⟨.no, 32, (.k 1), (.k 4), [.Num 3]⟩),
  (161, .row ⟨.no, 2, .mn, (.k 1), [.E, .Num 1]⟩),
  (166, .row ⟨.no, 7, (.k 4), (.k 1), [.I]⟩),
  (170, .row ⟨.no, 31, (.k 2), .v, [.Jb]⟩),
  (174, .row ⟨.no, 38, (.k 0), (.k 1), [.Ib, .A]⟩),
  (179, .row ⟨.no, 34, (.k 0), .v, [.Far]⟩),
  (185, .row ⟨.no, 38, (.k 0), (.k 1), [.DX, .A]⟩),
  (192, .row ⟨.no, 39, (.k 0), (.k 4), []⟩),
  (196, .row ⟨.no, 39, (.k 3), (.k 4), []⟩),
  (202, .row ⟨.no, 47, (.k 0), (.k 4), []⟩),
  (208, .row ⟨.no, 28, .opc, .v, [.J]⟩),
  (212, .row ⟨.no, 23, (.k 0), .v, [.E, .G]⟩),
  (216, .row ⟨.no, 13, (.k 0), .v, [.Seg 5]⟩),
  (220, .row ⟨.no, 5, (.k 0), .v, [.G, .E]⟩),
  (227, .row ⟨.no, 23, (.k 3), .v, [.E, .G]⟩),
  (231, .row ⟨.no, 9, (.k 1), .v, [.G, .Ew]⟩),
  (69, .row ⟨.no, 1, .opn, (.k 1), [.G, .E]⟩),
  (75, .row ⟨.no, 12, (.k 0), .v, [.Seg 0]⟩),
  (80, .row ⟨.no, 13, (.k 0), .v, [.Seg 0]⟩),
  (84, .row ⟨.no, 7, (.k 1), (.k 1), []⟩),
  (89, .row ⟨.no, 1, (.k 10), .v, [.R]⟩),
  (93, .row ⟨.no, 15, (.k 0), .v, []⟩),
  (98, .row ⟨.no, 5, (.k 0), .v, [.G, .E, .Is]⟩),
  (105, .row ⟨.no, 1, .mn, .v, [.E, .Is]⟩),
  (109, .row ⟨.no, 10, (.k 0), .v, [.E, .G]⟩),
  (113, .row ⟨.no, 8, (.k 0), .v, [.G, .E]⟩),
  (121, .row ⟨.no, 21, (.k 0), .v, []⟩),
  (125, .row ⟨.no, 19, (.k 0), (.k 1), []⟩),
  (130, .row ⟨.no, 8, (.k 0), (.k 1), [.O, .A]⟩),
  (135, .str 1 (.k 1)),
  (139, .str 2 (.k 1)),
  (143, .str 4 (.k 1)),
  (147, .row ⟨.no, 2, .mn, (.k 1), [.E, .Ib]⟩),
  (154, .row ⟨(.only [0]), 8, (.k 0), (.k 1), [.E, .I]⟩),
  (158, .row ⟨.no, 32, (.k 0), (.k 4), [.Ib]⟩),
  (162, .row ⟨.no, 2, .mn, .v, [.E, .Num 1]⟩),
  (167, .row ⟨.no, 7, (.k 5), (.k 1), [.I]⟩),
  (171, .row ⟨.no, 31, (.k 3), .v, [.Jb]⟩),
  (175, .row ⟨.no, 38, (.k 0), .v, [.Ib, .A]⟩),
  (181, .row ⟨.no, 27, (.k 0), .v, [.Jb]⟩),
  (186, .row ⟨.no, 38, (.k 0), .v, [.DX, .A]⟩),
  (193, .row ⟨.no, 39, (.k 1), (.k 4), []⟩),
  (197, .row ⟨.no, 39, (.k 4), (.k 4), []⟩),
  (203, .row ⟨(.only [0, 2, 3]), 45, (.k 0), (.k 4), [.Rm, .Cr]⟩),
  (209, .row ⟨.no, 25, .opc, (.k 1), [.E]⟩),
  (213, .row ⟨.no, 3, (.k 0), .v, [.E, .G, .Ib]⟩),
  (217, .row ⟨.no, 23, (.k 1), .v, [.E, .G]⟩),
  (221, .row ⟨.no, 23, (.k 2), .v, [.E, .G]⟩),
  (228, .row ⟨.no, 24, (.k 0), .v, [.G, .E]⟩),
  (232, .row ⟨.no, 22, (.k 0), (.k 4), [.R]⟩),
  (70, .row ⟨.no, 1, .opn, .v, [.G, .E]⟩),
  (77, .row ⟨.no, 12, (.k 0), .v, [.Seg 1]⟩),
  (81, .row ⟨.no, 13, (.k 0), .v, [.Seg 2]⟩),
  (85, .row ⟨.no, 7, (.k 2), (.k 1), []⟩),
  (90, .row ⟨.no, 12, (.k 0), .v, [.R]⟩),
  (94, .row ⟨.no, 12, (.k 0), .v, [.I]⟩),
  (99, .row ⟨.no, 28, .opc, .v, [.Jb]⟩),
  (106, .row ⟨.no, 1, (.k 8), (.k 1), [.E, .G]⟩),
  (110, .row ⟨.no, 8, (.k 0), (.k 1), [.E, .G]⟩),
  (117, .row ⟨(.only [0]), 13, (.k 0), .v, [.E]⟩),
  (122, .row ⟨.no, 16, (.k 0), .v, []⟩),
  (126, .row ⟨.no, 41, (.k 0), (.k 4), []⟩),
  (131, .row ⟨.no, 8, (.k 0), .v, [.O, .A]⟩),
  (136, .str 1 .v),
  (140, .str 2 .v),
  (144, .str 4 .v),
  (149, .row ⟨.no, 2, .mn, .v, [.E, .Ib]⟩),
  (155, .row ⟨(.only [0]), 8, (.k 0), .v, [.E, .I]⟩),
  (159, .row ⟨.no, 32, (.k 2), (.k 4), [.Num 4]⟩),
  (163, .row ⟨.no, 2, .mn, (.k 1), [.E, .CL]⟩),
  (168, .row ⟨.no, 31, (.k 0), .v, [.Jb]⟩),
  (172, .row ⟨.no, 37, (.k 0), (.k 1), [.A, .Ib]⟩),
  (176, .row ⟨.no, 29, (.k 0), .v, [.J]⟩),
  (182, .row ⟨.no, 37, (.k 0), (.k 1), [.A, .DX]⟩),
  (187, .row ⟨.no, 40, (.k 0), (.k 4), []⟩),
  (194, .row ⟨.no, 39, (.k 5), (.k 4), []⟩),
  (198, .row ⟨(.only [0, 1]), 1, .mp9, (.k 1), [.E]⟩),
  (206, .row ⟨(.only [0, 2, 3]), 45, (.k 0), (.k 4), [.Cr, .Rm]⟩),
  (210, .row ⟨.no, 12, (.k 0), .v, [.Seg 4]⟩),
  (214, .row ⟨.no, 3, (.k 0), .v, [.E, .G, .CL]⟩),
  (218, .row ⟨.no, 3, (.k 1), .v, [.E, .G, .Ib]⟩),
  (222, .row ⟨.no, 9, (.k 0), .v, [.G, .Eb]⟩),
  (229, .row ⟨.no, 24, (.k 1), .v, [.G, .E]⟩),
  (226, .row ⟨(.only [4, 5, 6, 7]), 23, .mm4, .v, [.E, .Ib]⟩),
  (189, .un (.k 1)),
  (191, .un .v),
  (199, .ff),
  (201, .sys),
  (115, .row ⟨.mem, 11, .k 0, .v, [.G, .E]⟩),
  (116, .to),
  (114, .frm)]

def lookN (L : List (Nat × Rule)) (n : Nat) : Option Rule := match L with | [] => none | e :: r => if n = e.1 then some e.2 else lookN r n

theorem lookN_mem : ∀ (L : List (Nat × Rule)) (n : Nat) (r : Rule), lookN L n = some r → (n, r) ∈ L
  | [], _, _, h => by cases h
  | e :: L, n, r, h => by
    unfold lookN at h
    by_cases he : n = e.1
    · rw [if_pos he] at h
      injection h with h
      subst he h
      exact List.mem_cons_self
    · rw [if_neg he] at h
      exact List.mem_cons_of_mem _ (lookN_mem L n r h)

/-- An opcode's rule. -/
def ruleOf (op : Int) : Option Rule := (rowOf op).bind (lookN tab)

theorem ruleOf_all : ∀ k : Fin 4096, (rowOf ((k : Nat) : Int)).all (fun n => (lookN tab n).isSome) = true := by decide +kernel

theorem ruleOf_in {op : Int} {r : Rule} (h : ruleOf op = some r) : ∃ n, (n, r) ∈ tab := by
  unfold ruleOf at h
  cases hr : rowOf op with
  | none => rw [hr] at h; cases h
  | some n => rw [hr] at h; exact ⟨n, lookN_mem _ _ _ h⟩

end Go.Proofs.YtolnaodlghahlaaGreatDoor
