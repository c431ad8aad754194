/- The types' table of this seat, held against the program. -/
import Derived.Test.YtbjjlngchidikaaDoorVp
import Derived.Test.YtbjjlngchidikaaDoorProg
namespace Go.Proofs.YtbjjlngchidikaaDoor
open Go.VD
set_option linter.unusedVariables false
def tblL : List (TypeId × TI) := [(1, ⟨.fn, 1, 8, [.nilFunc]⟩),
  (2, ⟨.int .i64, 1, 8, [.int .i64 0]⟩),
  (3, ⟨.int .i64, 1, 8, [.int .i64 0]⟩),
  (4, ⟨.bool, 1, 1, [.bool false]⟩),
  (5, ⟨.int .u8, 1, 1, [.int .u8 0]⟩),
  (6, ⟨.int .u8, 1, 1, [.int .u8 0]⟩),
  (7, ⟨.struct [(0, 2), (1, 3), (2, 4), (3, 6)], 4, 24, [.int .i64 0, .int .i64 0, .bool false, .int .u8 0]⟩),
  (8, ⟨.struct [(0, 2), (1, 3), (2, 4), (3, 6)], 4, 24, [.int .i64 0, .int .i64 0, .bool false, .int .u8 0]⟩),
  (9, ⟨.str, 1, 16, [.string .empty]⟩),
  (10, ⟨.str, 1, 16, [.string .empty]⟩),
  (11, ⟨.str, 1, 16, [.string .empty]⟩),
  (12, ⟨.int .u64, 1, 8, [.int .u64 0]⟩),
  (15, ⟨.ptr 89, 1, 8, [.pointer none]⟩),
  (16, ⟨.ptr 92, 1, 8, [.pointer none]⟩),
  (17, ⟨.ptr 100, 1, 8, [.pointer none]⟩),
  (20, ⟨.other, 1, 16, [.nilIface]⟩),
  (21, ⟨.int .i32, 1, 4, [.int .i32 0]⟩),
  (22, ⟨.arr 4 3, 4, 32, [.int .i64 0, .int .i64 0, .int .i64 0, .int .i64 0]⟩),
  (23, ⟨.arr 4 3, 4, 32, [.int .i64 0, .int .i64 0, .int .i64 0, .int .i64 0]⟩),
  (24, ⟨.fn, 1, 8, [.nilFunc]⟩),
  (25, ⟨.int .i64, 1, 8, [.int .i64 0]⟩),
  (27, ⟨.fn, 1, 8, [.nilFunc]⟩),
  (28, ⟨.fn, 1, 8, [.nilFunc]⟩),
  (29, ⟨.fn, 1, 8, [.nilFunc]⟩),
  (30, ⟨.fn, 1, 8, [.nilFunc]⟩),
  (31, ⟨.fn, 1, 8, [.nilFunc]⟩),
  (32, ⟨.struct [(0, 3), (1, 3)], 2, 16, [.int .i64 0, .int .i64 0]⟩),
  (33, ⟨.struct [(0, 3), (1, 3)], 2, 16, [.int .i64 0, .int .i64 0]⟩),
  (35, ⟨.fn, 1, 8, [.nilFunc]⟩),
  (36, ⟨.fn, 1, 8, [.nilFunc]⟩),
  (37, ⟨.fn, 1, 8, [.nilFunc]⟩),
  (38, ⟨.fn, 1, 8, [.nilFunc]⟩),
  (39, ⟨.fn, 1, 8, [.nilFunc]⟩),
  (40, ⟨.fn, 1, 8, [.nilFunc]⟩),
  (41, ⟨.fn, 1, 8, [.nilFunc]⟩),
  (42, ⟨.fn, 1, 8, [.nilFunc]⟩),
  (43, ⟨.fn, 1, 8, [.nilFunc]⟩),
  (44, ⟨.fn, 1, 8, [.nilFunc]⟩),
  (45, ⟨.fn, 1, 8, [.nilFunc]⟩),
  (46, ⟨.arr 6 23, 24, 192, [.int .i64 0, .int .i64 0, .int .i64 0, .int .i64 0, .int .i64 0, .int .i64 0, .int .i64 0, .int .i64 0, .int .i64 0, .int .i64 0, .int .i64 0, .int .i64 0, .int .i64 0, .int .i64 0, .int .i64 0, .int .i64 0, .int .i64 0, .int .i64 0, .int .i64 0, .int .i64 0, .int .i64 0, .int .i64 0, .int .i64 0, .int .i64 0]⟩),
  (47, ⟨.fn, 1, 8, [.nilFunc]⟩),
  (48, ⟨.fn, 1, 8, [.nilFunc]⟩),
  (49, ⟨.int .i64, 1, 8, [.int .i64 0]⟩),
  (50, ⟨.fn, 1, 8, [.nilFunc]⟩),
  (51, ⟨.fn, 1, 8, [.nilFunc]⟩),
  (52, ⟨.fn, 1, 8, [.nilFunc]⟩),
  (53, ⟨.fn, 1, 8, [.nilFunc]⟩),
  (54, ⟨.int .i64, 1, 8, [.int .i64 0]⟩),
  (55, ⟨.slice 23, 1, 24, [.slice none 0 0]⟩),
  (56, ⟨.int .i64, 1, 8, [.int .i64 0]⟩),
  (57, ⟨.slice 81, 1, 24, [.slice none 0 0]⟩),
  (58, ⟨.struct [(0, 4), (1, 57)], 2, 32, [.bool false, .slice none 0 0]⟩),
  (59, ⟨.struct [(0, 4), (1, 57)], 2, 32, [.bool false, .slice none 0 0]⟩),
  (61, ⟨.fn, 1, 8, [.nilFunc]⟩),
  (62, ⟨.fn, 1, 8, [.nilFunc]⟩),
  (64, ⟨.fn, 1, 8, [.nilFunc]⟩),
  (65, ⟨.arr 7 3, 7, 56, [.int .i64 0, .int .i64 0, .int .i64 0, .int .i64 0, .int .i64 0, .int .i64 0, .int .i64 0]⟩),
  (66, ⟨.fn, 1, 8, [.nilFunc]⟩),
  (67, ⟨.slice 33, 1, 24, [.slice none 0 0]⟩),
  (68, ⟨.fn, 1, 8, [.nilFunc]⟩),
  (69, ⟨.int .u64, 1, 8, [.int .u64 0]⟩),
  (70, ⟨.arr 4 69, 4, 32, [.int .u64 0, .int .u64 0, .int .u64 0, .int .u64 0]⟩),
  (71, ⟨.arr 4 69, 4, 32, [.int .u64 0, .int .u64 0, .int .u64 0, .int .u64 0]⟩),
  (72, ⟨.fn, 1, 8, [.nilFunc]⟩),
  (73, ⟨.fn, 1, 8, [.nilFunc]⟩),
  (74, ⟨.fn, 1, 8, [.nilFunc]⟩),
  (75, ⟨.fn, 1, 8, [.nilFunc]⟩),
  (76, ⟨.fn, 1, 8, [.nilFunc]⟩),
  (77, ⟨.fn, 1, 8, [.nilFunc]⟩),
  (78, ⟨.fn, 1, 8, [.nilFunc]⟩),
  (79, ⟨.fn, 1, 8, [.nilFunc]⟩),
  (80, ⟨.int .u64, 1, 8, [.int .u64 0]⟩),
  (81, ⟨.int .u32, 1, 4, [.int .u32 0]⟩),
  (83, ⟨.fn, 1, 8, [.nilFunc]⟩),
  (84, ⟨.fn, 1, 8, [.nilFunc]⟩),
  (85, ⟨.fn, 1, 8, [.nilFunc]⟩),
  (86, ⟨.fn, 1, 8, [.nilFunc]⟩),
  (87, ⟨.fn, 1, 8, [.nilFunc]⟩),
  (90, ⟨.arr 0 16, 0, 0, []⟩),
  (93, ⟨.int .u8, 1, 1, [.int .u8 0]⟩),
  (94, ⟨.int .u8, 1, 1, [.int .u8 0]⟩),
  (95, ⟨.fn, 1, 8, [.nilFunc]⟩),
  (96, ⟨.ptr 5, 1, 8, [.pointer none]⟩),
  (97, ⟨.int .i32, 1, 4, [.int .i32 0]⟩),
  (98, ⟨.int .i32, 1, 4, [.int .i32 0]⟩),
  (101, ⟨.fn, 1, 8, [.nilFunc]⟩)]
def T : Tbl := tblOf tblL
theorem T_ok : TblOk Tryd.prog T := tblOk_of (by kernel_rfl)
theorem mixed : Tryd.prog.follows .mixedOrders = true := by kernel_rfl
theorem T_1 : T 1 = some ⟨.fn, 1, 8, [.nilFunc]⟩ := by kernel_rfl
theorem T_2 : T 2 = some ⟨.int .i64, 1, 8, [.int .i64 0]⟩ := by kernel_rfl
theorem T_3 : T 3 = some ⟨.int .i64, 1, 8, [.int .i64 0]⟩ := by kernel_rfl
theorem T_4 : T 4 = some ⟨.bool, 1, 1, [.bool false]⟩ := by kernel_rfl
theorem T_5 : T 5 = some ⟨.int .u8, 1, 1, [.int .u8 0]⟩ := by kernel_rfl
theorem T_6 : T 6 = some ⟨.int .u8, 1, 1, [.int .u8 0]⟩ := by kernel_rfl
theorem T_7 : T 7 = some ⟨.struct [(0, 2), (1, 3), (2, 4), (3, 6)], 4, 24, [.int .i64 0, .int .i64 0, .bool false, .int .u8 0]⟩ := by kernel_rfl
theorem T_8 : T 8 = some ⟨.struct [(0, 2), (1, 3), (2, 4), (3, 6)], 4, 24, [.int .i64 0, .int .i64 0, .bool false, .int .u8 0]⟩ := by kernel_rfl
theorem T_9 : T 9 = some ⟨.str, 1, 16, [.string .empty]⟩ := by kernel_rfl
theorem T_10 : T 10 = some ⟨.str, 1, 16, [.string .empty]⟩ := by kernel_rfl
theorem T_11 : T 11 = some ⟨.str, 1, 16, [.string .empty]⟩ := by kernel_rfl
theorem T_12 : T 12 = some ⟨.int .u64, 1, 8, [.int .u64 0]⟩ := by kernel_rfl
theorem T_15 : T 15 = some ⟨.ptr 89, 1, 8, [.pointer none]⟩ := by kernel_rfl
theorem T_16 : T 16 = some ⟨.ptr 92, 1, 8, [.pointer none]⟩ := by kernel_rfl
theorem T_17 : T 17 = some ⟨.ptr 100, 1, 8, [.pointer none]⟩ := by kernel_rfl
theorem T_20 : T 20 = some ⟨.other, 1, 16, [.nilIface]⟩ := by kernel_rfl
theorem T_21 : T 21 = some ⟨.int .i32, 1, 4, [.int .i32 0]⟩ := by kernel_rfl
theorem T_22 : T 22 = some ⟨.arr 4 3, 4, 32, [.int .i64 0, .int .i64 0, .int .i64 0, .int .i64 0]⟩ := by kernel_rfl
theorem T_23 : T 23 = some ⟨.arr 4 3, 4, 32, [.int .i64 0, .int .i64 0, .int .i64 0, .int .i64 0]⟩ := by kernel_rfl
theorem T_24 : T 24 = some ⟨.fn, 1, 8, [.nilFunc]⟩ := by kernel_rfl
theorem T_25 : T 25 = some ⟨.int .i64, 1, 8, [.int .i64 0]⟩ := by kernel_rfl
theorem T_27 : T 27 = some ⟨.fn, 1, 8, [.nilFunc]⟩ := by kernel_rfl
theorem T_28 : T 28 = some ⟨.fn, 1, 8, [.nilFunc]⟩ := by kernel_rfl
theorem T_29 : T 29 = some ⟨.fn, 1, 8, [.nilFunc]⟩ := by kernel_rfl
theorem T_30 : T 30 = some ⟨.fn, 1, 8, [.nilFunc]⟩ := by kernel_rfl
theorem T_31 : T 31 = some ⟨.fn, 1, 8, [.nilFunc]⟩ := by kernel_rfl
theorem T_32 : T 32 = some ⟨.struct [(0, 3), (1, 3)], 2, 16, [.int .i64 0, .int .i64 0]⟩ := by kernel_rfl
theorem T_33 : T 33 = some ⟨.struct [(0, 3), (1, 3)], 2, 16, [.int .i64 0, .int .i64 0]⟩ := by kernel_rfl
theorem T_35 : T 35 = some ⟨.fn, 1, 8, [.nilFunc]⟩ := by kernel_rfl
theorem T_36 : T 36 = some ⟨.fn, 1, 8, [.nilFunc]⟩ := by kernel_rfl
theorem T_37 : T 37 = some ⟨.fn, 1, 8, [.nilFunc]⟩ := by kernel_rfl
theorem T_38 : T 38 = some ⟨.fn, 1, 8, [.nilFunc]⟩ := by kernel_rfl
theorem T_39 : T 39 = some ⟨.fn, 1, 8, [.nilFunc]⟩ := by kernel_rfl
theorem T_40 : T 40 = some ⟨.fn, 1, 8, [.nilFunc]⟩ := by kernel_rfl
theorem T_41 : T 41 = some ⟨.fn, 1, 8, [.nilFunc]⟩ := by kernel_rfl
theorem T_42 : T 42 = some ⟨.fn, 1, 8, [.nilFunc]⟩ := by kernel_rfl
theorem T_43 : T 43 = some ⟨.fn, 1, 8, [.nilFunc]⟩ := by kernel_rfl
theorem T_44 : T 44 = some ⟨.fn, 1, 8, [.nilFunc]⟩ := by kernel_rfl
theorem T_45 : T 45 = some ⟨.fn, 1, 8, [.nilFunc]⟩ := by kernel_rfl
theorem T_46 : T 46 = some ⟨.arr 6 23, 24, 192, [.int .i64 0, .int .i64 0, .int .i64 0, .int .i64 0, .int .i64 0, .int .i64 0, .int .i64 0, .int .i64 0, .int .i64 0, .int .i64 0, .int .i64 0, .int .i64 0, .int .i64 0, .int .i64 0, .int .i64 0, .int .i64 0, .int .i64 0, .int .i64 0, .int .i64 0, .int .i64 0, .int .i64 0, .int .i64 0, .int .i64 0, .int .i64 0]⟩ := by kernel_rfl
theorem T_47 : T 47 = some ⟨.fn, 1, 8, [.nilFunc]⟩ := by kernel_rfl
theorem T_48 : T 48 = some ⟨.fn, 1, 8, [.nilFunc]⟩ := by kernel_rfl
theorem T_49 : T 49 = some ⟨.int .i64, 1, 8, [.int .i64 0]⟩ := by kernel_rfl
theorem T_50 : T 50 = some ⟨.fn, 1, 8, [.nilFunc]⟩ := by kernel_rfl
theorem T_51 : T 51 = some ⟨.fn, 1, 8, [.nilFunc]⟩ := by kernel_rfl
theorem T_52 : T 52 = some ⟨.fn, 1, 8, [.nilFunc]⟩ := by kernel_rfl
theorem T_53 : T 53 = some ⟨.fn, 1, 8, [.nilFunc]⟩ := by kernel_rfl
theorem T_54 : T 54 = some ⟨.int .i64, 1, 8, [.int .i64 0]⟩ := by kernel_rfl
theorem T_55 : T 55 = some ⟨.slice 23, 1, 24, [.slice none 0 0]⟩ := by kernel_rfl
theorem T_56 : T 56 = some ⟨.int .i64, 1, 8, [.int .i64 0]⟩ := by kernel_rfl
theorem T_57 : T 57 = some ⟨.slice 81, 1, 24, [.slice none 0 0]⟩ := by kernel_rfl
theorem T_58 : T 58 = some ⟨.struct [(0, 4), (1, 57)], 2, 32, [.bool false, .slice none 0 0]⟩ := by kernel_rfl
theorem T_59 : T 59 = some ⟨.struct [(0, 4), (1, 57)], 2, 32, [.bool false, .slice none 0 0]⟩ := by kernel_rfl
theorem T_61 : T 61 = some ⟨.fn, 1, 8, [.nilFunc]⟩ := by kernel_rfl
theorem T_62 : T 62 = some ⟨.fn, 1, 8, [.nilFunc]⟩ := by kernel_rfl
theorem T_64 : T 64 = some ⟨.fn, 1, 8, [.nilFunc]⟩ := by kernel_rfl
theorem T_65 : T 65 = some ⟨.arr 7 3, 7, 56, [.int .i64 0, .int .i64 0, .int .i64 0, .int .i64 0, .int .i64 0, .int .i64 0, .int .i64 0]⟩ := by kernel_rfl
theorem T_66 : T 66 = some ⟨.fn, 1, 8, [.nilFunc]⟩ := by kernel_rfl
theorem T_67 : T 67 = some ⟨.slice 33, 1, 24, [.slice none 0 0]⟩ := by kernel_rfl
theorem T_68 : T 68 = some ⟨.fn, 1, 8, [.nilFunc]⟩ := by kernel_rfl
theorem T_69 : T 69 = some ⟨.int .u64, 1, 8, [.int .u64 0]⟩ := by kernel_rfl
theorem T_70 : T 70 = some ⟨.arr 4 69, 4, 32, [.int .u64 0, .int .u64 0, .int .u64 0, .int .u64 0]⟩ := by kernel_rfl
theorem T_71 : T 71 = some ⟨.arr 4 69, 4, 32, [.int .u64 0, .int .u64 0, .int .u64 0, .int .u64 0]⟩ := by kernel_rfl
theorem T_72 : T 72 = some ⟨.fn, 1, 8, [.nilFunc]⟩ := by kernel_rfl
theorem T_73 : T 73 = some ⟨.fn, 1, 8, [.nilFunc]⟩ := by kernel_rfl
theorem T_74 : T 74 = some ⟨.fn, 1, 8, [.nilFunc]⟩ := by kernel_rfl
theorem T_75 : T 75 = some ⟨.fn, 1, 8, [.nilFunc]⟩ := by kernel_rfl
theorem T_76 : T 76 = some ⟨.fn, 1, 8, [.nilFunc]⟩ := by kernel_rfl
theorem T_77 : T 77 = some ⟨.fn, 1, 8, [.nilFunc]⟩ := by kernel_rfl
theorem T_78 : T 78 = some ⟨.fn, 1, 8, [.nilFunc]⟩ := by kernel_rfl
theorem T_79 : T 79 = some ⟨.fn, 1, 8, [.nilFunc]⟩ := by kernel_rfl
theorem T_80 : T 80 = some ⟨.int .u64, 1, 8, [.int .u64 0]⟩ := by kernel_rfl
theorem T_81 : T 81 = some ⟨.int .u32, 1, 4, [.int .u32 0]⟩ := by kernel_rfl
theorem T_83 : T 83 = some ⟨.fn, 1, 8, [.nilFunc]⟩ := by kernel_rfl
theorem T_84 : T 84 = some ⟨.fn, 1, 8, [.nilFunc]⟩ := by kernel_rfl
theorem T_85 : T 85 = some ⟨.fn, 1, 8, [.nilFunc]⟩ := by kernel_rfl
theorem T_86 : T 86 = some ⟨.fn, 1, 8, [.nilFunc]⟩ := by kernel_rfl
theorem T_87 : T 87 = some ⟨.fn, 1, 8, [.nilFunc]⟩ := by kernel_rfl
theorem T_90 : T 90 = some ⟨.arr 0 16, 0, 0, []⟩ := by kernel_rfl
theorem T_93 : T 93 = some ⟨.int .u8, 1, 1, [.int .u8 0]⟩ := by kernel_rfl
theorem T_94 : T 94 = some ⟨.int .u8, 1, 1, [.int .u8 0]⟩ := by kernel_rfl
theorem T_95 : T 95 = some ⟨.fn, 1, 8, [.nilFunc]⟩ := by kernel_rfl
theorem T_96 : T 96 = some ⟨.ptr 5, 1, 8, [.pointer none]⟩ := by kernel_rfl
theorem T_97 : T 97 = some ⟨.int .i32, 1, 4, [.int .i32 0]⟩ := by kernel_rfl
theorem T_98 : T 98 = some ⟨.int .i32, 1, 4, [.int .i32 0]⟩ := by kernel_rfl
theorem T_101 : T 101 = some ⟨.fn, 1, 8, [.nilFunc]⟩ := by kernel_rfl
end Go.Proofs.YtbjjlngchidikaaDoor
