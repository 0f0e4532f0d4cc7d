/- The function of each row of the table does what the data say. -/
import Derived.Test.YtolnaodlghahlaaGreatDoorDecTabD
import Derived.Test.YtolnaodlghahlaaGreatDoorDecR1
import Derived.Test.YtolnaodlghahlaaGreatDoorDecR2
import Derived.Test.YtolnaodlghahlaaGreatDoorDecR3
import Derived.Test.YtolnaodlghahlaaGreatDoorDecR4
import Derived.Test.YtolnaodlghahlaaGreatDoorDecR5
import Derived.Test.YtolnaodlghahlaaGreatDoorDecDec
namespace Go.Proofs.YtolnaodlghahlaaGreatDoor
open Go.ChangeShapes Go.WideShapes Go.ChangeAt Go.RowKit
set_option linter.unusedVariables false
set_option maxRecDepth 100000

theorem tb0 : RowOk 63 (.row ⟨.no, 1, .opn, (.k 1), [.E, .G]⟩) := ⟨r00_1, fun a w => by kernel_rfl⟩
theorem tb1 : RowOk 71 (.row ⟨.no, 1, .opn, (.k 1), [.A, .I]⟩) := ⟨r00_5, fun a w => by kernel_rfl⟩
theorem tb2 : RowOk 78 (.row ⟨.no, 12, (.k 0), .v, [.Seg 2]⟩) := ⟨r00_9, fun a w => by kernel_rfl⟩
theorem tb3 : RowOk 82 (.row ⟨.no, 13, (.k 0), .v, [.Seg 3]⟩) := ⟨r00_13, fun a w => by kernel_rfl⟩
theorem tb4 : RowOk 86 (.row ⟨.no, 7, (.k 3), (.k 1), []⟩) := ⟨r00_17, fun a w => by kernel_rfl⟩
theorem tb5 : RowOk 91 (.row ⟨.no, 13, (.k 0), .v, [.R]⟩) := ⟨r40_4, fun a w => by kernel_rfl⟩
theorem tb6 : RowOk 95 (.row ⟨.no, 5, (.k 0), .v, [.G, .E, .I]⟩) := ⟨r40_8, fun a w => by kernel_rfl⟩
theorem tb7 : RowOk 102 (.row ⟨.no, 1, .mn, (.k 1), [.E, .I]⟩) := ⟨r80_1, fun a w => by kernel_rfl⟩
theorem tb8 : RowOk 107 (.row ⟨.no, 1, (.k 8), .v, [.E, .G]⟩) := ⟨r80_5, fun a w => by kernel_rfl⟩
theorem tb9 : RowOk 111 (.row ⟨.no, 8, (.k 0), .v, [.E, .G]⟩) := ⟨r80_9, fun a w => by kernel_rfl⟩
theorem tb10 : RowOk 119 (.row ⟨.no, 10, (.k 0), .v, [.R, .A]⟩) := ⟨r80_13, fun a w => by kernel_rfl⟩
theorem tb11 : RowOk 123 (.row ⟨.no, 17, (.k 0), .v, []⟩) := ⟨r80_17, fun a w => by kernel_rfl⟩
theorem tb12 : RowOk 127 (.row ⟨.no, 8, (.k 0), (.k 1), [.A, .O]⟩) := ⟨rA0_1, fun a w => by kernel_rfl⟩
theorem tb13 : RowOk 132 (.str 0 (.k 1)) := ⟨rA0_5, fun a w => by kernel_rfl⟩
theorem tb14 : RowOk 137 (.row ⟨.no, 1, (.k 8), (.k 1), [.A, .I]⟩) := ⟨rA0_9, fun a w => by kernel_rfl⟩
theorem tb15 : RowOk 141 (.str 3 (.k 1)) := ⟨rA0_13, fun a w => by kernel_rfl⟩
theorem tb16 : RowOk 145 (.row ⟨.no, 8, (.k 0), (.k 1), [.R, .I]⟩) := ⟨rA0_17, fun a w => by kernel_rfl⟩
theorem tb17 : RowOk 150 (.row ⟨.no, 30, (.k 0), .v, [.Iw]⟩) := ⟨rC0_3, fun a w => by kernel_rfl⟩
theorem tb18 : RowOk 156 (.row ⟨.no, 35, (.k 0), .v, []⟩) := ⟨rC0_7, fun a w => by kernel_rfl⟩
theorem tb19 : RowOk 160 (.row ⟨.no, 33, (.k 0), .v, []⟩) := ⟨rC0_11, fun a w => by kernel_rfl⟩
theorem tb20 : RowOk 165 (.row ⟨.no, 2, .mn, .v, [.E, .CL]⟩) := ⟨rC0_15, fun a w => by kernel_rfl⟩
theorem tb21 : RowOk 169 (.row ⟨.no, 31, (.k 1), .v, [.Jb]⟩) := ⟨rE0_2, fun a w => by kernel_rfl⟩
theorem tb22 : RowOk 173 (.row ⟨.no, 37, (.k 0), .v, [.A, .Ib]⟩) := ⟨rE0_6, fun a w => by kernel_rfl⟩
theorem tb23 : RowOk 178 (.row ⟨.no, 27, (.k 0), .v, [.J]⟩) := ⟨rE0_10, fun a w => by kernel_rfl⟩
theorem tb24 : RowOk 184 (.row ⟨.no, 37, (.k 0), .v, [.A, .DX]⟩) := ⟨rE0_14, fun a w => by kernel_rfl⟩
theorem tb25 : RowOk 188 (.row ⟨.no, 39, (.k 2), (.k 4), []⟩) := ⟨rE0_18, fun a w => by kernel_rfl⟩
theorem tb26 : RowOk 195 (.row ⟨.no, 39, (.k 6), (.k 4), []⟩) := ⟨rE0_24, fun a w => by kernel_rfl⟩
theorem tb27 : RowOk 200 (.row ⟨(.only [3]), 44, (.k 0), (.k 2), [.E]⟩) := ⟨r0F_1, fun a w => by kernel_rfl⟩
theorem tb28 : RowOk 207 (.row ⟨.no, 26, .opc, .v, [.G, .E]⟩) := ⟨r0F_5, fun a w => by kernel_rfl⟩
theorem tb29 : RowOk 211 (.row ⟨.no, 13, (.k 0), .v, [.Seg 4]⟩) := ⟨r0F_9, fun a w => by kernel_rfl⟩
theorem tb30 : RowOk 215 (.row ⟨.no, 12, (.k 0), .v, [.Seg 5]⟩) := ⟨r0F_13, fun a w => by kernel_rfl⟩
theorem tb31 : RowOk 219 (.row ⟨.no, 3, (.k 1), .v, [.E, .G, .CL]⟩) := ⟨r0F_17, fun a w => by kernel_rfl⟩
theorem tb32 : RowOk 224 (.row ⟨.no, 9, (.k 0), .v, [.G, .Ew]⟩) := ⟨r0F_21, fun a w => by kernel_rfl⟩
theorem tb33 : RowOk 230 (.row ⟨.no, 9, (.k 1), .v, [.G, .Eb]⟩) := ⟨r0F_26, fun a w => by kernel_rfl⟩
theorem tb34 : RowOk 68 (.row ⟨.no, 1, .opn, .v, [.E, .G]⟩) := ⟨r00_2, fun a w => by kernel_rfl⟩
theorem tb35 : RowOk 74 (.row ⟨.no, 1, .opn, .v, [.A, .I]⟩) := ⟨r00_6, fun a w => by kernel_rfl⟩
theorem tb36 : RowOk 79 (.row ⟨.no, 12, (.k 0), .v, [.Seg 3]⟩) := ⟨r00_10, fun a w => by kernel_rfl⟩
theorem tb37 : RowOk 83 (.row ⟨.no, 7, (.k 0), (.k 1), []⟩) := ⟨r00_14, fun a w => by kernel_rfl⟩
theorem tb38 : RowOk 87 (.row ⟨.no, 1, (.k 9), .v, [.R]⟩) := ⟨r40_1, fun a w => by kernel_rfl⟩
theorem tb39 : RowOk 92 (.row ⟨.no, 14, (.k 0), .v, []⟩) := ⟨r40_5, fun a w => by kernel_rfl⟩
theorem tb40 : RowOk 96 (.row ⟨.no, 12, (.k 0), .v, [.Is]⟩) := ⟨r40_9, fun a w => by kernel_rfl⟩
theorem tb41 : RowOk 104 (.row ⟨.no, 1, .mn, .v, [.E, .I]⟩) := ⟨r80_2, fun a w => by kernel_rfl⟩
theorem tb42 : RowOk 108 (.row ⟨.no, 10, (.k 0), (.k 1), [.E, .G]⟩) := ⟨r80_6, fun a w => by kernel_rfl⟩
theorem tb43 : RowOk 112 (.row ⟨.no, 8, (.k 0), (.k 1), [.G, .E]⟩) := ⟨r80_10, fun a w => by kernel_rfl⟩
theorem tb44 : RowOk 120 (.row ⟨.no, 20, (.k 0), .v, []⟩) := ⟨r80_14, fun a w => by kernel_rfl⟩
theorem tb45 : RowOk 124 (.row ⟨.no, 18, (.k 0), (.k 1), []⟩) := ⟨r80_18, fun a w => by kernel_rfl⟩
theorem tb46 : RowOk 129 (.row ⟨.no, 8, (.k 0), .v, [.A, .O]⟩) := ⟨rA0_2, fun a w => by kernel_rfl⟩
theorem tb47 : RowOk 134 (.str 0 .v) := ⟨rA0_6, fun a w => by kernel_rfl⟩
theorem tb48 : RowOk 138 (.row ⟨.no, 1, (.k 8), .v, [.A, .I]⟩) := ⟨rA0_10, fun a w => by kernel_rfl⟩
theorem tb49 : RowOk 142 (.str 3 .v) := ⟨rA0_14, fun a w => by kernel_rfl⟩
theorem tb50 : RowOk 146 (.row ⟨.no, 8, (.k 0), .v, [.R, .I]⟩) := ⟨rA0_18, fun a w => by kernel_rfl⟩
theorem tb51 : RowOk 152 (.row ⟨.no, 30, (.k 0), .v, [.Num 0]⟩) := ⟨rC0_4, fun a w => by kernel_rfl⟩
theorem tb52 : RowOk 157 (.row ⟨.no, 32, (.k 1), (.k 4), [.Num 3]⟩) := ⟨rC0_8, fun a w => by kernel_rfl⟩
theorem tb53 : RowOk 161 (.row ⟨.no, 2, .mn, (.k 1), [.E, .Num 1]⟩) := ⟨rC0_12, fun a w => by kernel_rfl⟩
theorem tb54 : RowOk 166 (.row ⟨.no, 7, (.k 4), (.k 1), [.I]⟩) := ⟨rC0_16, fun a w => by kernel_rfl⟩
theorem tb55 : RowOk 170 (.row ⟨.no, 31, (.k 2), .v, [.Jb]⟩) := ⟨rE0_3, fun a w => by kernel_rfl⟩
theorem tb56 : RowOk 174 (.row ⟨.no, 38, (.k 0), (.k 1), [.Ib, .A]⟩) := ⟨rE0_7, fun a w => by kernel_rfl⟩
theorem tb57 : RowOk 179 (.row ⟨.no, 34, (.k 0), .v, [.Far]⟩) := ⟨rE0_11, fun a w => by kernel_rfl⟩
theorem tb58 : RowOk 185 (.row ⟨.no, 38, (.k 0), (.k 1), [.DX, .A]⟩) := ⟨rE0_15, fun a w => by kernel_rfl⟩
theorem tb59 : RowOk 192 (.row ⟨.no, 39, (.k 0), (.k 4), []⟩) := ⟨rE0_21, fun a w => by kernel_rfl⟩
theorem tb60 : RowOk 196 (.row ⟨.no, 39, (.k 3), (.k 4), []⟩) := ⟨rE0_25, fun a w => by kernel_rfl⟩
theorem tb61 : RowOk 202 (.row ⟨.no, 47, (.k 0), (.k 4), []⟩) := ⟨r0F_2, fun a w => by kernel_rfl⟩
theorem tb62 : RowOk 208 (.row ⟨.no, 28, .opc, .v, [.J]⟩) := ⟨r0F_6, fun a w => by kernel_rfl⟩
theorem tb63 : RowOk 212 (.row ⟨.no, 23, (.k 0), .v, [.E, .G]⟩) := ⟨r0F_10, fun a w => by kernel_rfl⟩
theorem tb64 : RowOk 216 (.row ⟨.no, 13, (.k 0), .v, [.Seg 5]⟩) := ⟨r0F_14, fun a w => by kernel_rfl⟩
theorem tb65 : RowOk 220 (.row ⟨.no, 5, (.k 0), .v, [.G, .E]⟩) := ⟨r0F_18, fun a w => by kernel_rfl⟩
theorem tb66 : RowOk 227 (.row ⟨.no, 23, (.k 3), .v, [.E, .G]⟩) := ⟨r0F_23, fun a w => by kernel_rfl⟩
theorem tb67 : RowOk 231 (.row ⟨.no, 9, (.k 1), .v, [.G, .Ew]⟩) := ⟨r0F_27, fun a w => by kernel_rfl⟩
theorem tb68 : RowOk 69 (.row ⟨.no, 1, .opn, (.k 1), [.G, .E]⟩) := ⟨r00_3, fun a w => by kernel_rfl⟩
theorem tb69 : RowOk 75 (.row ⟨.no, 12, (.k 0), .v, [.Seg 0]⟩) := ⟨r00_7, fun a w => by kernel_rfl⟩
theorem tb70 : RowOk 80 (.row ⟨.no, 13, (.k 0), .v, [.Seg 0]⟩) := ⟨r00_11, fun a w => by kernel_rfl⟩
theorem tb71 : RowOk 84 (.row ⟨.no, 7, (.k 1), (.k 1), []⟩) := ⟨r00_15, fun a w => by kernel_rfl⟩
theorem tb72 : RowOk 89 (.row ⟨.no, 1, (.k 10), .v, [.R]⟩) := ⟨r40_2, fun a w => by kernel_rfl⟩
theorem tb73 : RowOk 93 (.row ⟨.no, 15, (.k 0), .v, []⟩) := ⟨r40_6, fun a w => by kernel_rfl⟩
theorem tb74 : RowOk 98 (.row ⟨.no, 5, (.k 0), .v, [.G, .E, .Is]⟩) := ⟨r40_10, fun a w => by kernel_rfl⟩
theorem tb75 : RowOk 105 (.row ⟨.no, 1, .mn, .v, [.E, .Is]⟩) := ⟨r80_3, fun a w => by kernel_rfl⟩
theorem tb76 : RowOk 109 (.row ⟨.no, 10, (.k 0), .v, [.E, .G]⟩) := ⟨r80_7, fun a w => by kernel_rfl⟩
theorem tb77 : RowOk 113 (.row ⟨.no, 8, (.k 0), .v, [.G, .E]⟩) := ⟨r80_11, fun a w => by kernel_rfl⟩
theorem tb78 : RowOk 121 (.row ⟨.no, 21, (.k 0), .v, []⟩) := ⟨r80_15, fun a w => by kernel_rfl⟩
theorem tb79 : RowOk 125 (.row ⟨.no, 19, (.k 0), (.k 1), []⟩) := ⟨r80_19, fun a w => by kernel_rfl⟩
theorem tb80 : RowOk 130 (.row ⟨.no, 8, (.k 0), (.k 1), [.O, .A]⟩) := ⟨rA0_3, fun a w => by kernel_rfl⟩
theorem tb81 : RowOk 135 (.str 1 (.k 1)) := ⟨rA0_7, fun a w => by kernel_rfl⟩
theorem tb82 : RowOk 139 (.str 2 (.k 1)) := ⟨rA0_11, fun a w => by kernel_rfl⟩
theorem tb83 : RowOk 143 (.str 4 (.k 1)) := ⟨rA0_15, fun a w => by kernel_rfl⟩
theorem tb84 : RowOk 147 (.row ⟨.no, 2, .mn, (.k 1), [.E, .Ib]⟩) := ⟨rC0_1, fun a w => by kernel_rfl⟩
theorem tb85 : RowOk 154 (.row ⟨(.only [0]), 8, (.k 0), (.k 1), [.E, .I]⟩) := ⟨rC0_5, fun a w => by kernel_rfl⟩
theorem tb86 : RowOk 158 (.row ⟨.no, 32, (.k 0), (.k 4), [.Ib]⟩) := ⟨rC0_9, fun a w => by kernel_rfl⟩
theorem tb87 : RowOk 162 (.row ⟨.no, 2, .mn, .v, [.E, .Num 1]⟩) := ⟨rC0_13, fun a w => by kernel_rfl⟩
theorem tb88 : RowOk 167 (.row ⟨.no, 7, (.k 5), (.k 1), [.I]⟩) := ⟨rC0_17, fun a w => by kernel_rfl⟩
theorem tb89 : RowOk 171 (.row ⟨.no, 31, (.k 3), .v, [.Jb]⟩) := ⟨rE0_4, fun a w => by kernel_rfl⟩
theorem tb90 : RowOk 175 (.row ⟨.no, 38, (.k 0), .v, [.Ib, .A]⟩) := ⟨rE0_8, fun a w => by kernel_rfl⟩
theorem tb91 : RowOk 181 (.row ⟨.no, 27, (.k 0), .v, [.Jb]⟩) := ⟨rE0_12, fun a w => by kernel_rfl⟩
theorem tb92 : RowOk 186 (.row ⟨.no, 38, (.k 0), .v, [.DX, .A]⟩) := ⟨rE0_16, fun a w => by kernel_rfl⟩
theorem tb93 : RowOk 193 (.row ⟨.no, 39, (.k 1), (.k 4), []⟩) := ⟨rE0_22, fun a w => by kernel_rfl⟩
theorem tb94 : RowOk 197 (.row ⟨.no, 39, (.k 4), (.k 4), []⟩) := ⟨rE0_26, fun a w => by kernel_rfl⟩
theorem tb95 : RowOk 203 (.row ⟨(.only [0, 2, 3]), 45, (.k 0), (.k 4), [.Rm, .Cr]⟩) := ⟨r0F_3, fun a w => by kernel_rfl⟩
theorem tb96 : RowOk 209 (.row ⟨.no, 25, .opc, (.k 1), [.E]⟩) := ⟨r0F_7, fun a w => by kernel_rfl⟩
theorem tb97 : RowOk 213 (.row ⟨.no, 3, (.k 0), .v, [.E, .G, .Ib]⟩) := ⟨r0F_11, fun a w => by kernel_rfl⟩
theorem tb98 : RowOk 217 (.row ⟨.no, 23, (.k 1), .v, [.E, .G]⟩) := ⟨r0F_15, fun a w => by kernel_rfl⟩
theorem tb99 : RowOk 221 (.row ⟨.no, 23, (.k 2), .v, [.E, .G]⟩) := ⟨r0F_19, fun a w => by kernel_rfl⟩
theorem tb100 : RowOk 228 (.row ⟨.no, 24, (.k 0), .v, [.G, .E]⟩) := ⟨r0F_24, fun a w => by kernel_rfl⟩
theorem tb101 : RowOk 232 (.row ⟨.no, 22, (.k 0), (.k 4), [.R]⟩) := ⟨r0F_28, fun a w => by kernel_rfl⟩
theorem tb102 : RowOk 70 (.row ⟨.no, 1, .opn, .v, [.G, .E]⟩) := ⟨r00_4, fun a w => by kernel_rfl⟩
theorem tb103 : RowOk 77 (.row ⟨.no, 12, (.k 0), .v, [.Seg 1]⟩) := ⟨r00_8, fun a w => by kernel_rfl⟩
theorem tb104 : RowOk 81 (.row ⟨.no, 13, (.k 0), .v, [.Seg 2]⟩) := ⟨r00_12, fun a w => by kernel_rfl⟩
theorem tb105 : RowOk 85 (.row ⟨.no, 7, (.k 2), (.k 1), []⟩) := ⟨r00_16, fun a w => by kernel_rfl⟩
theorem tb106 : RowOk 90 (.row ⟨.no, 12, (.k 0), .v, [.R]⟩) := ⟨r40_3, fun a w => by kernel_rfl⟩
theorem tb107 : RowOk 94 (.row ⟨.no, 12, (.k 0), .v, [.I]⟩) := ⟨r40_7, fun a w => by kernel_rfl⟩
theorem tb108 : RowOk 99 (.row ⟨.no, 28, .opc, .v, [.Jb]⟩) := ⟨r40_11, fun a w => by kernel_rfl⟩
theorem tb109 : RowOk 106 (.row ⟨.no, 1, (.k 8), (.k 1), [.E, .G]⟩) := ⟨r80_4, fun a w => by kernel_rfl⟩
theorem tb110 : RowOk 110 (.row ⟨.no, 8, (.k 0), (.k 1), [.E, .G]⟩) := ⟨r80_8, fun a w => by kernel_rfl⟩
theorem tb111 : RowOk 117 (.row ⟨(.only [0]), 13, (.k 0), .v, [.E]⟩) := ⟨r80_12, fun a w => by kernel_rfl⟩
theorem tb112 : RowOk 122 (.row ⟨.no, 16, (.k 0), .v, []⟩) := ⟨r80_16, fun a w => by kernel_rfl⟩
theorem tb113 : RowOk 126 (.row ⟨.no, 41, (.k 0), (.k 4), []⟩) := ⟨r80_20, fun a w => by kernel_rfl⟩
theorem tb114 : RowOk 131 (.row ⟨.no, 8, (.k 0), .v, [.O, .A]⟩) := ⟨rA0_4, fun a w => by kernel_rfl⟩
theorem tb115 : RowOk 136 (.str 1 .v) := ⟨rA0_8, fun a w => by kernel_rfl⟩
theorem tb116 : RowOk 140 (.str 2 .v) := ⟨rA0_12, fun a w => by kernel_rfl⟩
theorem tb117 : RowOk 144 (.str 4 .v) := ⟨rA0_16, fun a w => by kernel_rfl⟩
theorem tb118 : RowOk 149 (.row ⟨.no, 2, .mn, .v, [.E, .Ib]⟩) := ⟨rC0_2, fun a w => by kernel_rfl⟩
theorem tb119 : RowOk 155 (.row ⟨(.only [0]), 8, (.k 0), .v, [.E, .I]⟩) := ⟨rC0_6, fun a w => by kernel_rfl⟩
theorem tb120 : RowOk 159 (.row ⟨.no, 32, (.k 2), (.k 4), [.Num 4]⟩) := ⟨rC0_10, fun a w => by kernel_rfl⟩
theorem tb121 : RowOk 163 (.row ⟨.no, 2, .mn, (.k 1), [.E, .CL]⟩) := ⟨rC0_14, fun a w => by kernel_rfl⟩
theorem tb122 : RowOk 168 (.row ⟨.no, 31, (.k 0), .v, [.Jb]⟩) := ⟨rE0_1, fun a w => by kernel_rfl⟩
theorem tb123 : RowOk 172 (.row ⟨.no, 37, (.k 0), (.k 1), [.A, .Ib]⟩) := ⟨rE0_5, fun a w => by kernel_rfl⟩
theorem tb124 : RowOk 176 (.row ⟨.no, 29, (.k 0), .v, [.J]⟩) := ⟨rE0_9, fun a w => by kernel_rfl⟩
theorem tb125 : RowOk 182 (.row ⟨.no, 37, (.k 0), (.k 1), [.A, .DX]⟩) := ⟨rE0_13, fun a w => by kernel_rfl⟩
theorem tb126 : RowOk 187 (.row ⟨.no, 40, (.k 0), (.k 4), []⟩) := ⟨rE0_17, fun a w => by kernel_rfl⟩
theorem tb127 : RowOk 194 (.row ⟨.no, 39, (.k 5), (.k 4), []⟩) := ⟨rE0_23, fun a w => by kernel_rfl⟩
theorem tb128 : RowOk 198 (.row ⟨(.only [0, 1]), 1, .mp9, (.k 1), [.E]⟩) := ⟨rE0_27, fun a w => by kernel_rfl⟩
theorem tb129 : RowOk 206 (.row ⟨(.only [0, 2, 3]), 45, (.k 0), (.k 4), [.Cr, .Rm]⟩) := ⟨r0F_4, fun a w => by kernel_rfl⟩
theorem tb130 : RowOk 210 (.row ⟨.no, 12, (.k 0), .v, [.Seg 4]⟩) := ⟨r0F_8, fun a w => by kernel_rfl⟩
theorem tb131 : RowOk 214 (.row ⟨.no, 3, (.k 0), .v, [.E, .G, .CL]⟩) := ⟨r0F_12, fun a w => by kernel_rfl⟩
theorem tb132 : RowOk 218 (.row ⟨.no, 3, (.k 1), .v, [.E, .G, .Ib]⟩) := ⟨r0F_16, fun a w => by kernel_rfl⟩
theorem tb133 : RowOk 222 (.row ⟨.no, 9, (.k 0), .v, [.G, .Eb]⟩) := ⟨r0F_20, fun a w => by kernel_rfl⟩
theorem tb134 : RowOk 229 (.row ⟨.no, 24, (.k 1), .v, [.G, .E]⟩) := ⟨r0F_25, fun a w => by kernel_rfl⟩
theorem tb135 : RowOk 226 (.row ⟨(.only [4, 5, 6, 7]), 23, .mm4, .v, [.E, .Ib]⟩) := ⟨r0F_22, fun a w => by kernel_rfl⟩
theorem tb136 : RowOk 189 (.un (.k 1)) := ⟨rE0_19, fun a w => by kernel_rfl⟩
theorem tb137 : RowOk 191 (.un .v) := ⟨rE0_20, fun a w => by kernel_rfl⟩
theorem tb138 : RowOk 199 (.ff) := ⟨gFF_ok, fun a w => by kernel_rfl⟩
theorem tb139 : RowOk 201 (.sys) := ⟨gSys_ok, fun a w => by kernel_rfl⟩
theorem tb140 : RowOk 115 (.row ⟨.mem, 11, .k 0, .v, [.G, .E]⟩) := ⟨gLea_ok, fun a w => by kernel_rfl⟩
theorem tb141 : RowOk 116 (.to) := ⟨gTo_ok, fun a w => by kernel_rfl⟩
theorem tb142 : RowOk 114 (.frm) := ⟨gFrom_ok, fun a w => by kernel_rfl⟩

theorem tab_ok : ∀ e ∈ tab, RowOk e.1 e.2 := by
  unfold tab
  simp only [List.forall_mem_cons]
  exact ⟨tb0, tb1, tb2, tb3, tb4, tb5, tb6, tb7, tb8, tb9, tb10, tb11, tb12, tb13, tb14, tb15, tb16, tb17, tb18, tb19, tb20, tb21, tb22, tb23, tb24, tb25, tb26, tb27, tb28, tb29, tb30, tb31, tb32, tb33, tb34, tb35, tb36, tb37, tb38, tb39, tb40, tb41, tb42, tb43, tb44, tb45, tb46, tb47, tb48, tb49, tb50, tb51, tb52, tb53, tb54, tb55, tb56, tb57, tb58, tb59, tb60, tb61, tb62, tb63, tb64, tb65, tb66, tb67, tb68, tb69, tb70, tb71, tb72, tb73, tb74, tb75, tb76, tb77, tb78, tb79, tb80, tb81, tb82, tb83, tb84, tb85, tb86, tb87, tb88, tb89, tb90, tb91, tb92, tb93, tb94, tb95, tb96, tb97, tb98, tb99, tb100, tb101, tb102, tb103, tb104, tb105, tb106, tb107, tb108, tb109, tb110, tb111, tb112, tb113, tb114, tb115, tb116, tb117, tb118, tb119, tb120, tb121, tb122, tb123, tb124, tb125, tb126, tb127, tb128, tb129, tb130, tb131, tb132, tb133, tb134, tb135, tb136, tb137, tb138, tb139, tb140, tb141, tb142, fun _ h => by cases h⟩

theorem tabOk : TabOk ruleOf := by
  intro op h0 h1
  unfold ruleOf
  cases h : rowOf op with
  | none => exact Or.inl ⟨rfl, rfl⟩
  | some n =>
    have a := ruleOf_all ⟨op.toNat, by omega⟩
    simp only [Int.toNat_of_nonneg h0, h, Option.all_some] at a
    obtain ⟨r, hr⟩ := Option.isSome_iff_exists.1 a
    exact Or.inr ⟨n, r, rfl, hr, tab_ok _ (lookN_mem _ _ _ hr)⟩

end Go.Proofs.YtolnaodlghahlaaGreatDoor
