/- The types' table of this seat, held against the program. -/
import Derived.Test.YthnhfkpihbjddaaVp
import Derived.Test.YthnhfkpihbjddaaProg
namespace Go.Proofs.Ythnhfkpihbjddaa
open Go.VD
set_option linter.unusedVariables false
def tblL : List (TypeId × TI) := [(1, ⟨.fn, 1, 8, [.nilFunc]⟩),
  (2, ⟨.int .i64, 1, 8, [.int .i64 0]⟩),
  (3, ⟨.int .i64, 1, 8, [.int .i64 0]⟩),
  (4, ⟨.bool, 1, 1, [.bool false]⟩),
  (5, ⟨.int .u8, 1, 1, [.int .u8 0]⟩),
  (6, ⟨.int .u8, 1, 1, [.int .u8 0]⟩),
  (7, ⟨.struct [(0, 2), (1, 3), (2, 4), (3, 6)], 4, 24, [.int .i64 0, .int .i64 0, .bool false, .int .u8 0]⟩),
  (8, ⟨.struct [(0, 2), (1, 3), (2, 4), (3, 6)], 4, 24, [.int .i64 0, .int .i64 0, .bool false, .int .u8 0]⟩),
  (9, ⟨.str, 1, 16, [.string .empty]⟩),
  (10, ⟨.str, 1, 16, [.string .empty]⟩),
  (11, ⟨.str, 1, 16, [.string .empty]⟩),
  (12, ⟨.int .u64, 1, 8, [.int .u64 0]⟩),
  (15, ⟨.ptr 157, 1, 8, [.pointer none]⟩),
  (16, ⟨.ptr 160, 1, 8, [.pointer none]⟩),
  (17, ⟨.ptr 168, 1, 8, [.pointer none]⟩),
  (20, ⟨.other, 1, 16, [.nilIface]⟩),
  (21, ⟨.int .i32, 1, 4, [.int .i32 0]⟩),
  (22, ⟨.slice 41, 1, 24, [.slice none 0 0]⟩),
  (23, ⟨.struct [(0, 4), (1, 22)], 2, 32, [.bool false, .slice none 0 0]⟩),
  (24, ⟨.struct [(0, 4), (1, 22)], 2, 32, [.bool false, .slice none 0 0]⟩),
  (25, ⟨.fn, 1, 8, [.nilFunc]⟩),
  (26, ⟨.fn, 1, 8, [.nilFunc]⟩),
  (27, ⟨.int .i64, 1, 8, [.int .i64 0]⟩),
  (29, ⟨.fn, 1, 8, [.nilFunc]⟩),
  (30, ⟨.fn, 1, 8, [.nilFunc]⟩),
  (31, ⟨.fn, 1, 8, [.nilFunc]⟩),
  (33, ⟨.fn, 1, 8, [.nilFunc]⟩),
  (34, ⟨.fn, 1, 8, [.nilFunc]⟩),
  (35, ⟨.fn, 1, 8, [.nilFunc]⟩),
  (36, ⟨.fn, 1, 8, [.nilFunc]⟩),
  (37, ⟨.fn, 1, 8, [.nilFunc]⟩),
  (38, ⟨.fn, 1, 8, [.nilFunc]⟩),
  (39, ⟨.fn, 1, 8, [.nilFunc]⟩),
  (40, ⟨.fn, 1, 8, [.nilFunc]⟩),
  (41, ⟨.int .u32, 1, 4, [.int .u32 0]⟩),
  (42, ⟨.fn, 1, 8, [.nilFunc]⟩),
  (43, ⟨.fn, 1, 8, [.nilFunc]⟩),
  (44, ⟨.slice 71, 1, 24, [.slice none 0 0]⟩),
  (45, ⟨.fn, 1, 8, [.nilFunc]⟩),
  (46, ⟨.fn, 1, 8, [.nilFunc]⟩),
  (47, ⟨.fn, 1, 8, [.nilFunc]⟩),
  (48, ⟨.fn, 1, 8, [.nilFunc]⟩),
  (49, ⟨.fn, 1, 8, [.nilFunc]⟩),
  (51, ⟨.fn, 1, 8, [.nilFunc]⟩),
  (52, ⟨.fn, 1, 8, [.nilFunc]⟩),
  (54, ⟨.fn, 1, 8, [.nilFunc]⟩),
  (55, ⟨.fn, 1, 8, [.nilFunc]⟩),
  (56, ⟨.fn, 1, 8, [.nilFunc]⟩),
  (57, ⟨.slice 24, 1, 24, [.slice none 0 0]⟩),
  (59, ⟨.fn, 1, 8, [.nilFunc]⟩),
  (60, ⟨.fn, 1, 8, [.nilFunc]⟩),
  (61, ⟨.fn, 1, 8, [.nilFunc]⟩),
  (62, ⟨.fn, 1, 8, [.nilFunc]⟩),
  (63, ⟨.fn, 1, 8, [.nilFunc]⟩),
  (64, ⟨.fn, 1, 8, [.nilFunc]⟩),
  (65, ⟨.fn, 1, 8, [.nilFunc]⟩),
  (66, ⟨.int .u64, 1, 8, [.int .u64 0]⟩),
  (67, ⟨.fn, 1, 8, [.nilFunc]⟩),
  (68, ⟨.fn, 1, 8, [.nilFunc]⟩),
  (69, ⟨.slice 86, 1, 24, [.slice none 0 0]⟩),
  (70, ⟨.struct [(0, 3), (1, 69), (2, 4), (3, 44)], 4, 64, [.int .i64 0, .slice none 0 0, .bool false, .slice none 0 0]⟩),
  (71, ⟨.struct [(0, 3), (1, 69), (2, 4), (3, 44)], 4, 64, [.int .i64 0, .slice none 0 0, .bool false, .slice none 0 0]⟩),
  (72, ⟨.fn, 1, 8, [.nilFunc]⟩),
  (73, ⟨.fn, 1, 8, [.nilFunc]⟩),
  (75, ⟨.fn, 1, 8, [.nilFunc]⟩),
  (76, ⟨.ptr 79, 1, 8, [.pointer none]⟩),
  (77, ⟨.slice 5, 1, 24, [.slice none 0 0]⟩),
  (78, ⟨.struct [(0, 76), (1, 77)], 2, 32, [.pointer none, .slice none 0 0]⟩),
  (79, ⟨.struct [(0, 76), (1, 77)], 2, 32, [.pointer none, .slice none 0 0]⟩),
  (80, ⟨.fn, 1, 8, [.nilFunc]⟩),
  (81, ⟨.fn, 1, 8, [.nilFunc]⟩),
  (82, ⟨.fn, 1, 8, [.nilFunc]⟩),
  (83, ⟨.fn, 1, 8, [.nilFunc]⟩),
  (84, ⟨.fn, 1, 8, [.nilFunc]⟩),
  (85, ⟨.struct [(0, 9), (1, 4)], 2, 24, [.string .empty, .bool false]⟩),
  (86, ⟨.struct [(0, 9), (1, 4)], 2, 24, [.string .empty, .bool false]⟩),
  (87, ⟨.fn, 1, 8, [.nilFunc]⟩),
  (89, ⟨.fn, 1, 8, [.nilFunc]⟩),
  (90, ⟨.fn, 1, 8, [.nilFunc]⟩),
  (91, ⟨.fn, 1, 8, [.nilFunc]⟩),
  (92, ⟨.fn, 1, 8, [.nilFunc]⟩),
  (93, ⟨.struct [(0, 9), (1, 3)], 2, 24, [.string .empty, .int .i64 0]⟩),
  (94, ⟨.struct [(0, 9), (1, 3)], 2, 24, [.string .empty, .int .i64 0]⟩),
  (95, ⟨.struct [(0, 94), (2, 3)], 3, 32, [.string .empty, .int .i64 0, .int .i64 0]⟩),
  (96, ⟨.struct [(0, 94), (2, 3)], 3, 32, [.string .empty, .int .i64 0, .int .i64 0]⟩),
  (97, ⟨.fn, 1, 8, [.nilFunc]⟩),
  (98, ⟨.fn, 1, 8, [.nilFunc]⟩),
  (99, ⟨.fn, 1, 8, [.nilFunc]⟩),
  (100, ⟨.fn, 1, 8, [.nilFunc]⟩),
  (101, ⟨.fn, 1, 8, [.nilFunc]⟩),
  (103, ⟨.fn, 1, 8, [.nilFunc]⟩),
  (104, ⟨.fn, 1, 8, [.nilFunc]⟩),
  (106, ⟨.fn, 1, 8, [.nilFunc]⟩),
  (107, ⟨.int .u64, 1, 8, [.int .u64 0]⟩),
  (108, ⟨.fn, 1, 8, [.nilFunc]⟩),
  (109, ⟨.fn, 1, 8, [.nilFunc]⟩),
  (110, ⟨.fn, 1, 8, [.nilFunc]⟩),
  (111, ⟨.struct [(0, 2), (1, 2), (2, 2), (3, 2)], 4, 32, [.int .i64 0, .int .i64 0, .int .i64 0, .int .i64 0]⟩),
  (112, ⟨.struct [(0, 2), (1, 2), (2, 2), (3, 2)], 4, 32, [.int .i64 0, .int .i64 0, .int .i64 0, .int .i64 0]⟩),
  (113, ⟨.fn, 1, 8, [.nilFunc]⟩),
  (114, ⟨.fn, 1, 8, [.nilFunc]⟩),
  (115, ⟨.fn, 1, 8, [.nilFunc]⟩),
  (116, ⟨.fn, 1, 8, [.nilFunc]⟩),
  (117, ⟨.fn, 1, 8, [.nilFunc]⟩),
  (118, ⟨.fn, 1, 8, [.nilFunc]⟩),
  (119, ⟨.fn, 1, 8, [.nilFunc]⟩),
  (120, ⟨.fn, 1, 8, [.nilFunc]⟩),
  (121, ⟨.fn, 1, 8, [.nilFunc]⟩),
  (122, ⟨.other, 1, 16, [.nilIface]⟩),
  (123, ⟨.other, 1, 16, [.nilIface]⟩),
  (125, ⟨.fn, 1, 8, [.nilFunc]⟩),
  (126, ⟨.fn, 1, 8, [.nilFunc]⟩),
  (127, ⟨.fn, 1, 8, [.nilFunc]⟩),
  (128, ⟨.ptr 5, 1, 8, [.pointer none]⟩),
  (129, ⟨.fn, 1, 8, [.nilFunc]⟩),
  (130, ⟨.ptr 96, 1, 8, [.pointer none]⟩),
  (131, ⟨.int .u8, 1, 1, [.int .u8 0]⟩),
  (132, ⟨.struct [(0, 131), (1, 86), (3, 3)], 4, 40, [.int .u8 0, .string .empty, .bool false, .int .i64 0]⟩),
  (133, ⟨.struct [(0, 131), (1, 86), (3, 3)], 4, 40, [.int .u8 0, .string .empty, .bool false, .int .i64 0]⟩),
  (135, ⟨.fn, 1, 8, [.nilFunc]⟩),
  (137, ⟨.fn, 1, 8, [.nilFunc]⟩),
  (138, ⟨.fn, 1, 8, [.nilFunc]⟩),
  (139, ⟨.fn, 1, 8, [.nilFunc]⟩),
  (140, ⟨.fn, 1, 8, [.nilFunc]⟩),
  (141, ⟨.ptr 94, 1, 8, [.pointer none]⟩),
  (142, ⟨.fn, 1, 8, [.nilFunc]⟩),
  (143, ⟨.fn, 1, 8, [.nilFunc]⟩),
  (144, ⟨.fn, 1, 8, [.nilFunc]⟩),
  (146, ⟨.fn, 1, 8, [.nilFunc]⟩),
  (148, ⟨.fn, 1, 8, [.nilFunc]⟩),
  (149, ⟨.fn, 1, 8, [.nilFunc]⟩),
  (150, ⟨.fn, 1, 8, [.nilFunc]⟩),
  (151, ⟨.fn, 1, 8, [.nilFunc]⟩),
  (152, ⟨.fn, 1, 8, [.nilFunc]⟩),
  (153, ⟨.fn, 1, 8, [.nilFunc]⟩),
  (154, ⟨.fn, 1, 8, [.nilFunc]⟩),
  (155, ⟨.ptr 170, 1, 8, [.pointer none]⟩),
  (158, ⟨.arr 0 16, 0, 0, []⟩),
  (161, ⟨.fn, 1, 8, [.nilFunc]⟩),
  (162, ⟨.int .u8, 1, 1, [.int .u8 0]⟩),
  (163, ⟨.int .u8, 1, 1, [.int .u8 0]⟩),
  (164, ⟨.fn, 1, 8, [.nilFunc]⟩),
  (165, ⟨.int .i32, 1, 4, [.int .i32 0]⟩),
  (166, ⟨.int .i32, 1, 4, [.int .i32 0]⟩),
  (169, ⟨.struct [(0, 9)], 1, 16, [.string .empty]⟩),
  (170, ⟨.struct [(0, 9)], 1, 16, [.string .empty]⟩)]
def T : Tbl := tblOf tblL
theorem T_ok : TblOk Try.prog T := tblOk_of (by kernel_rfl)
theorem mixed : Try.prog.follows .mixedOrders = true := by kernel_rfl
theorem T_1 : T 1 = some ⟨.fn, 1, 8, [.nilFunc]⟩ := by kernel_rfl
theorem T_2 : T 2 = some ⟨.int .i64, 1, 8, [.int .i64 0]⟩ := by kernel_rfl
theorem T_3 : T 3 = some ⟨.int .i64, 1, 8, [.int .i64 0]⟩ := by kernel_rfl
theorem T_4 : T 4 = some ⟨.bool, 1, 1, [.bool false]⟩ := by kernel_rfl
theorem T_5 : T 5 = some ⟨.int .u8, 1, 1, [.int .u8 0]⟩ := by kernel_rfl
theorem T_6 : T 6 = some ⟨.int .u8, 1, 1, [.int .u8 0]⟩ := by kernel_rfl
theorem T_7 : T 7 = some ⟨.struct [(0, 2), (1, 3), (2, 4), (3, 6)], 4, 24, [.int .i64 0, .int .i64 0, .bool false, .int .u8 0]⟩ := by kernel_rfl
theorem T_8 : T 8 = some ⟨.struct [(0, 2), (1, 3), (2, 4), (3, 6)], 4, 24, [.int .i64 0, .int .i64 0, .bool false, .int .u8 0]⟩ := by kernel_rfl
theorem T_9 : T 9 = some ⟨.str, 1, 16, [.string .empty]⟩ := by kernel_rfl
theorem T_10 : T 10 = some ⟨.str, 1, 16, [.string .empty]⟩ := by kernel_rfl
theorem T_11 : T 11 = some ⟨.str, 1, 16, [.string .empty]⟩ := by kernel_rfl
theorem T_12 : T 12 = some ⟨.int .u64, 1, 8, [.int .u64 0]⟩ := by kernel_rfl
theorem T_15 : T 15 = some ⟨.ptr 157, 1, 8, [.pointer none]⟩ := by kernel_rfl
theorem T_16 : T 16 = some ⟨.ptr 160, 1, 8, [.pointer none]⟩ := by kernel_rfl
theorem T_17 : T 17 = some ⟨.ptr 168, 1, 8, [.pointer none]⟩ := by kernel_rfl
theorem T_20 : T 20 = some ⟨.other, 1, 16, [.nilIface]⟩ := by kernel_rfl
theorem T_21 : T 21 = some ⟨.int .i32, 1, 4, [.int .i32 0]⟩ := by kernel_rfl
theorem T_22 : T 22 = some ⟨.slice 41, 1, 24, [.slice none 0 0]⟩ := by kernel_rfl
theorem T_23 : T 23 = some ⟨.struct [(0, 4), (1, 22)], 2, 32, [.bool false, .slice none 0 0]⟩ := by kernel_rfl
theorem T_24 : T 24 = some ⟨.struct [(0, 4), (1, 22)], 2, 32, [.bool false, .slice none 0 0]⟩ := by kernel_rfl
theorem T_25 : T 25 = some ⟨.fn, 1, 8, [.nilFunc]⟩ := by kernel_rfl
theorem T_26 : T 26 = some ⟨.fn, 1, 8, [.nilFunc]⟩ := by kernel_rfl
theorem T_27 : T 27 = some ⟨.int .i64, 1, 8, [.int .i64 0]⟩ := by kernel_rfl
theorem T_29 : T 29 = some ⟨.fn, 1, 8, [.nilFunc]⟩ := by kernel_rfl
theorem T_30 : T 30 = some ⟨.fn, 1, 8, [.nilFunc]⟩ := by kernel_rfl
theorem T_31 : T 31 = some ⟨.fn, 1, 8, [.nilFunc]⟩ := by kernel_rfl
theorem T_33 : T 33 = some ⟨.fn, 1, 8, [.nilFunc]⟩ := by kernel_rfl
theorem T_34 : T 34 = some ⟨.fn, 1, 8, [.nilFunc]⟩ := by kernel_rfl
theorem T_35 : T 35 = some ⟨.fn, 1, 8, [.nilFunc]⟩ := by kernel_rfl
theorem T_36 : T 36 = some ⟨.fn, 1, 8, [.nilFunc]⟩ := by kernel_rfl
theorem T_37 : T 37 = some ⟨.fn, 1, 8, [.nilFunc]⟩ := by kernel_rfl
theorem T_38 : T 38 = some ⟨.fn, 1, 8, [.nilFunc]⟩ := by kernel_rfl
theorem T_39 : T 39 = some ⟨.fn, 1, 8, [.nilFunc]⟩ := by kernel_rfl
theorem T_40 : T 40 = some ⟨.fn, 1, 8, [.nilFunc]⟩ := by kernel_rfl
theorem T_41 : T 41 = some ⟨.int .u32, 1, 4, [.int .u32 0]⟩ := by kernel_rfl
theorem T_42 : T 42 = some ⟨.fn, 1, 8, [.nilFunc]⟩ := by kernel_rfl
theorem T_43 : T 43 = some ⟨.fn, 1, 8, [.nilFunc]⟩ := by kernel_rfl
theorem T_44 : T 44 = some ⟨.slice 71, 1, 24, [.slice none 0 0]⟩ := by kernel_rfl
theorem T_45 : T 45 = some ⟨.fn, 1, 8, [.nilFunc]⟩ := by kernel_rfl
theorem T_46 : T 46 = some ⟨.fn, 1, 8, [.nilFunc]⟩ := by kernel_rfl
theorem T_47 : T 47 = some ⟨.fn, 1, 8, [.nilFunc]⟩ := by kernel_rfl
theorem T_48 : T 48 = some ⟨.fn, 1, 8, [.nilFunc]⟩ := by kernel_rfl
theorem T_49 : T 49 = some ⟨.fn, 1, 8, [.nilFunc]⟩ := by kernel_rfl
theorem T_51 : T 51 = some ⟨.fn, 1, 8, [.nilFunc]⟩ := by kernel_rfl
theorem T_52 : T 52 = some ⟨.fn, 1, 8, [.nilFunc]⟩ := by kernel_rfl
theorem T_54 : T 54 = some ⟨.fn, 1, 8, [.nilFunc]⟩ := by kernel_rfl
theorem T_55 : T 55 = some ⟨.fn, 1, 8, [.nilFunc]⟩ := by kernel_rfl
theorem T_56 : T 56 = some ⟨.fn, 1, 8, [.nilFunc]⟩ := by kernel_rfl
theorem T_57 : T 57 = some ⟨.slice 24, 1, 24, [.slice none 0 0]⟩ := by kernel_rfl
theorem T_59 : T 59 = some ⟨.fn, 1, 8, [.nilFunc]⟩ := by kernel_rfl
theorem T_60 : T 60 = some ⟨.fn, 1, 8, [.nilFunc]⟩ := by kernel_rfl
theorem T_61 : T 61 = some ⟨.fn, 1, 8, [.nilFunc]⟩ := by kernel_rfl
theorem T_62 : T 62 = some ⟨.fn, 1, 8, [.nilFunc]⟩ := by kernel_rfl
theorem T_63 : T 63 = some ⟨.fn, 1, 8, [.nilFunc]⟩ := by kernel_rfl
theorem T_64 : T 64 = some ⟨.fn, 1, 8, [.nilFunc]⟩ := by kernel_rfl
theorem T_65 : T 65 = some ⟨.fn, 1, 8, [.nilFunc]⟩ := by kernel_rfl
theorem T_66 : T 66 = some ⟨.int .u64, 1, 8, [.int .u64 0]⟩ := by kernel_rfl
theorem T_67 : T 67 = some ⟨.fn, 1, 8, [.nilFunc]⟩ := by kernel_rfl
theorem T_68 : T 68 = some ⟨.fn, 1, 8, [.nilFunc]⟩ := by kernel_rfl
theorem T_69 : T 69 = some ⟨.slice 86, 1, 24, [.slice none 0 0]⟩ := by kernel_rfl
theorem T_70 : T 70 = some ⟨.struct [(0, 3), (1, 69), (2, 4), (3, 44)], 4, 64, [.int .i64 0, .slice none 0 0, .bool false, .slice none 0 0]⟩ := by kernel_rfl
theorem T_71 : T 71 = some ⟨.struct [(0, 3), (1, 69), (2, 4), (3, 44)], 4, 64, [.int .i64 0, .slice none 0 0, .bool false, .slice none 0 0]⟩ := by kernel_rfl
theorem T_72 : T 72 = some ⟨.fn, 1, 8, [.nilFunc]⟩ := by kernel_rfl
theorem T_73 : T 73 = some ⟨.fn, 1, 8, [.nilFunc]⟩ := by kernel_rfl
theorem T_75 : T 75 = some ⟨.fn, 1, 8, [.nilFunc]⟩ := by kernel_rfl
theorem T_76 : T 76 = some ⟨.ptr 79, 1, 8, [.pointer none]⟩ := by kernel_rfl
theorem T_77 : T 77 = some ⟨.slice 5, 1, 24, [.slice none 0 0]⟩ := by kernel_rfl
theorem T_78 : T 78 = some ⟨.struct [(0, 76), (1, 77)], 2, 32, [.pointer none, .slice none 0 0]⟩ := by kernel_rfl
theorem T_79 : T 79 = some ⟨.struct [(0, 76), (1, 77)], 2, 32, [.pointer none, .slice none 0 0]⟩ := by kernel_rfl
theorem T_80 : T 80 = some ⟨.fn, 1, 8, [.nilFunc]⟩ := by kernel_rfl
theorem T_81 : T 81 = some ⟨.fn, 1, 8, [.nilFunc]⟩ := by kernel_rfl
theorem T_82 : T 82 = some ⟨.fn, 1, 8, [.nilFunc]⟩ := by kernel_rfl
theorem T_83 : T 83 = some ⟨.fn, 1, 8, [.nilFunc]⟩ := by kernel_rfl
theorem T_84 : T 84 = some ⟨.fn, 1, 8, [.nilFunc]⟩ := by kernel_rfl
theorem T_85 : T 85 = some ⟨.struct [(0, 9), (1, 4)], 2, 24, [.string .empty, .bool false]⟩ := by kernel_rfl
theorem T_86 : T 86 = some ⟨.struct [(0, 9), (1, 4)], 2, 24, [.string .empty, .bool false]⟩ := by kernel_rfl
theorem T_87 : T 87 = some ⟨.fn, 1, 8, [.nilFunc]⟩ := by kernel_rfl
theorem T_89 : T 89 = some ⟨.fn, 1, 8, [.nilFunc]⟩ := by kernel_rfl
theorem T_90 : T 90 = some ⟨.fn, 1, 8, [.nilFunc]⟩ := by kernel_rfl
theorem T_91 : T 91 = some ⟨.fn, 1, 8, [.nilFunc]⟩ := by kernel_rfl
theorem T_92 : T 92 = some ⟨.fn, 1, 8, [.nilFunc]⟩ := by kernel_rfl
theorem T_93 : T 93 = some ⟨.struct [(0, 9), (1, 3)], 2, 24, [.string .empty, .int .i64 0]⟩ := by kernel_rfl
theorem T_94 : T 94 = some ⟨.struct [(0, 9), (1, 3)], 2, 24, [.string .empty, .int .i64 0]⟩ := by kernel_rfl
theorem T_95 : T 95 = some ⟨.struct [(0, 94), (2, 3)], 3, 32, [.string .empty, .int .i64 0, .int .i64 0]⟩ := by kernel_rfl
theorem T_96 : T 96 = some ⟨.struct [(0, 94), (2, 3)], 3, 32, [.string .empty, .int .i64 0, .int .i64 0]⟩ := by kernel_rfl
theorem T_97 : T 97 = some ⟨.fn, 1, 8, [.nilFunc]⟩ := by kernel_rfl
theorem T_98 : T 98 = some ⟨.fn, 1, 8, [.nilFunc]⟩ := by kernel_rfl
theorem T_99 : T 99 = some ⟨.fn, 1, 8, [.nilFunc]⟩ := by kernel_rfl
theorem T_100 : T 100 = some ⟨.fn, 1, 8, [.nilFunc]⟩ := by kernel_rfl
theorem T_101 : T 101 = some ⟨.fn, 1, 8, [.nilFunc]⟩ := by kernel_rfl
theorem T_103 : T 103 = some ⟨.fn, 1, 8, [.nilFunc]⟩ := by kernel_rfl
theorem T_104 : T 104 = some ⟨.fn, 1, 8, [.nilFunc]⟩ := by kernel_rfl
theorem T_106 : T 106 = some ⟨.fn, 1, 8, [.nilFunc]⟩ := by kernel_rfl
theorem T_107 : T 107 = some ⟨.int .u64, 1, 8, [.int .u64 0]⟩ := by kernel_rfl
theorem T_108 : T 108 = some ⟨.fn, 1, 8, [.nilFunc]⟩ := by kernel_rfl
theorem T_109 : T 109 = some ⟨.fn, 1, 8, [.nilFunc]⟩ := by kernel_rfl
theorem T_110 : T 110 = some ⟨.fn, 1, 8, [.nilFunc]⟩ := by kernel_rfl
theorem T_111 : T 111 = some ⟨.struct [(0, 2), (1, 2), (2, 2), (3, 2)], 4, 32, [.int .i64 0, .int .i64 0, .int .i64 0, .int .i64 0]⟩ := by kernel_rfl
theorem T_112 : T 112 = some ⟨.struct [(0, 2), (1, 2), (2, 2), (3, 2)], 4, 32, [.int .i64 0, .int .i64 0, .int .i64 0, .int .i64 0]⟩ := by kernel_rfl
theorem T_113 : T 113 = some ⟨.fn, 1, 8, [.nilFunc]⟩ := by kernel_rfl
theorem T_114 : T 114 = some ⟨.fn, 1, 8, [.nilFunc]⟩ := by kernel_rfl
theorem T_115 : T 115 = some ⟨.fn, 1, 8, [.nilFunc]⟩ := by kernel_rfl
theorem T_116 : T 116 = some ⟨.fn, 1, 8, [.nilFunc]⟩ := by kernel_rfl
theorem T_117 : T 117 = some ⟨.fn, 1, 8, [.nilFunc]⟩ := by kernel_rfl
theorem T_118 : T 118 = some ⟨.fn, 1, 8, [.nilFunc]⟩ := by kernel_rfl
theorem T_119 : T 119 = some ⟨.fn, 1, 8, [.nilFunc]⟩ := by kernel_rfl
theorem T_120 : T 120 = some ⟨.fn, 1, 8, [.nilFunc]⟩ := by kernel_rfl
theorem T_121 : T 121 = some ⟨.fn, 1, 8, [.nilFunc]⟩ := by kernel_rfl
theorem T_122 : T 122 = some ⟨.other, 1, 16, [.nilIface]⟩ := by kernel_rfl
theorem T_123 : T 123 = some ⟨.other, 1, 16, [.nilIface]⟩ := by kernel_rfl
theorem T_125 : T 125 = some ⟨.fn, 1, 8, [.nilFunc]⟩ := by kernel_rfl
theorem T_126 : T 126 = some ⟨.fn, 1, 8, [.nilFunc]⟩ := by kernel_rfl
theorem T_127 : T 127 = some ⟨.fn, 1, 8, [.nilFunc]⟩ := by kernel_rfl
theorem T_128 : T 128 = some ⟨.ptr 5, 1, 8, [.pointer none]⟩ := by kernel_rfl
theorem T_129 : T 129 = some ⟨.fn, 1, 8, [.nilFunc]⟩ := by kernel_rfl
theorem T_130 : T 130 = some ⟨.ptr 96, 1, 8, [.pointer none]⟩ := by kernel_rfl
theorem T_131 : T 131 = some ⟨.int .u8, 1, 1, [.int .u8 0]⟩ := by kernel_rfl
theorem T_132 : T 132 = some ⟨.struct [(0, 131), (1, 86), (3, 3)], 4, 40, [.int .u8 0, .string .empty, .bool false, .int .i64 0]⟩ := by kernel_rfl
theorem T_133 : T 133 = some ⟨.struct [(0, 131), (1, 86), (3, 3)], 4, 40, [.int .u8 0, .string .empty, .bool false, .int .i64 0]⟩ := by kernel_rfl
theorem T_135 : T 135 = some ⟨.fn, 1, 8, [.nilFunc]⟩ := by kernel_rfl
theorem T_137 : T 137 = some ⟨.fn, 1, 8, [.nilFunc]⟩ := by kernel_rfl
theorem T_138 : T 138 = some ⟨.fn, 1, 8, [.nilFunc]⟩ := by kernel_rfl
theorem T_139 : T 139 = some ⟨.fn, 1, 8, [.nilFunc]⟩ := by kernel_rfl
theorem T_140 : T 140 = some ⟨.fn, 1, 8, [.nilFunc]⟩ := by kernel_rfl
theorem T_141 : T 141 = some ⟨.ptr 94, 1, 8, [.pointer none]⟩ := by kernel_rfl
theorem T_142 : T 142 = some ⟨.fn, 1, 8, [.nilFunc]⟩ := by kernel_rfl
theorem T_143 : T 143 = some ⟨.fn, 1, 8, [.nilFunc]⟩ := by kernel_rfl
theorem T_144 : T 144 = some ⟨.fn, 1, 8, [.nilFunc]⟩ := by kernel_rfl
theorem T_146 : T 146 = some ⟨.fn, 1, 8, [.nilFunc]⟩ := by kernel_rfl
theorem T_148 : T 148 = some ⟨.fn, 1, 8, [.nilFunc]⟩ := by kernel_rfl
theorem T_149 : T 149 = some ⟨.fn, 1, 8, [.nilFunc]⟩ := by kernel_rfl
theorem T_150 : T 150 = some ⟨.fn, 1, 8, [.nilFunc]⟩ := by kernel_rfl
theorem T_151 : T 151 = some ⟨.fn, 1, 8, [.nilFunc]⟩ := by kernel_rfl
theorem T_152 : T 152 = some ⟨.fn, 1, 8, [.nilFunc]⟩ := by kernel_rfl
theorem T_153 : T 153 = some ⟨.fn, 1, 8, [.nilFunc]⟩ := by kernel_rfl
theorem T_154 : T 154 = some ⟨.fn, 1, 8, [.nilFunc]⟩ := by kernel_rfl
theorem T_155 : T 155 = some ⟨.ptr 170, 1, 8, [.pointer none]⟩ := by kernel_rfl
theorem T_158 : T 158 = some ⟨.arr 0 16, 0, 0, []⟩ := by kernel_rfl
theorem T_161 : T 161 = some ⟨.fn, 1, 8, [.nilFunc]⟩ := by kernel_rfl
theorem T_162 : T 162 = some ⟨.int .u8, 1, 1, [.int .u8 0]⟩ := by kernel_rfl
theorem T_163 : T 163 = some ⟨.int .u8, 1, 1, [.int .u8 0]⟩ := by kernel_rfl
theorem T_164 : T 164 = some ⟨.fn, 1, 8, [.nilFunc]⟩ := by kernel_rfl
theorem T_165 : T 165 = some ⟨.int .i32, 1, 4, [.int .i32 0]⟩ := by kernel_rfl
theorem T_166 : T 166 = some ⟨.int .i32, 1, 4, [.int .i32 0]⟩ := by kernel_rfl
theorem T_169 : T 169 = some ⟨.struct [(0, 9)], 1, 16, [.string .empty]⟩ := by kernel_rfl
theorem T_170 : T 170 = some ⟨.struct [(0, 9)], 1, 16, [.string .empty]⟩ := by kernel_rfl
end Go.Proofs.Ythnhfkpihbjddaa
