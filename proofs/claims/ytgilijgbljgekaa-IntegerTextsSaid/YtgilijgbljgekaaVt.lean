/- The types' table of this seat, held against the program. -/
import Derived.Test.YtgilijgbljgekaaVp
import Derived.Test.YtgilijgbljgekaaProg
namespace Go.Proofs.Ytgilijgbljgekaa
open Go.VD
set_option linter.unusedVariables false
def tblL : List (TypeId × TI) := [(1, ⟨.fn, 1, 8, [.nilFunc]⟩),
  (2, ⟨.int .i64, 1, 8, [.int .i64 0]⟩),
  (3, ⟨.int .i64, 1, 8, [.int .i64 0]⟩),
  (4, ⟨.bool, 1, 1, [.bool false]⟩),
  (5, ⟨.int .u8, 1, 1, [.int .u8 0]⟩),
  (6, ⟨.int .u8, 1, 1, [.int .u8 0]⟩),
  (7, ⟨.struct [(0, 2), (1, 3), (2, 4), (3, 6)], 4, 24, [.int .i64 0, .int .i64 0, .bool false, .int .u8 0]⟩),
  (8, ⟨.struct [(0, 2), (1, 3), (2, 4), (3, 6)], 4, 24, [.int .i64 0, .int .i64 0, .bool false, .int .u8 0]⟩),
  (9, ⟨.str, 1, 16, [.string .empty]⟩),
  (10, ⟨.str, 1, 16, [.string .empty]⟩),
  (11, ⟨.str, 1, 16, [.string .empty]⟩),
  (12, ⟨.int .u64, 1, 8, [.int .u64 0]⟩),
  (15, ⟨.ptr 98, 1, 8, [.pointer none]⟩),
  (16, ⟨.ptr 101, 1, 8, [.pointer none]⟩),
  (17, ⟨.ptr 110, 1, 8, [.pointer none]⟩),
  (20, ⟨.other, 1, 16, [.nilIface]⟩),
  (21, ⟨.int .i32, 1, 4, [.int .i32 0]⟩),
  (22, ⟨.slice 48, 1, 24, [.slice none 0 0]⟩),
  (23, ⟨.struct [(0, 4), (1, 22)], 2, 32, [.bool false, .slice none 0 0]⟩),
  (24, ⟨.struct [(0, 4), (1, 22)], 2, 32, [.bool false, .slice none 0 0]⟩),
  (25, ⟨.fn, 1, 8, [.nilFunc]⟩),
  (26, ⟨.fn, 1, 8, [.nilFunc]⟩),
  (28, ⟨.fn, 1, 8, [.nilFunc]⟩),
  (29, ⟨.fn, 1, 8, [.nilFunc]⟩),
  (30, ⟨.fn, 1, 8, [.nilFunc]⟩),
  (31, ⟨.fn, 1, 8, [.nilFunc]⟩),
  (32, ⟨.fn, 1, 8, [.nilFunc]⟩),
  (33, ⟨.fn, 1, 8, [.nilFunc]⟩),
  (34, ⟨.int .i64, 1, 8, [.int .i64 0]⟩),
  (36, ⟨.fn, 1, 8, [.nilFunc]⟩),
  (37, ⟨.fn, 1, 8, [.nilFunc]⟩),
  (38, ⟨.fn, 1, 8, [.nilFunc]⟩),
  (40, ⟨.fn, 1, 8, [.nilFunc]⟩),
  (41, ⟨.fn, 1, 8, [.nilFunc]⟩),
  (42, ⟨.fn, 1, 8, [.nilFunc]⟩),
  (43, ⟨.fn, 1, 8, [.nilFunc]⟩),
  (44, ⟨.fn, 1, 8, [.nilFunc]⟩),
  (45, ⟨.fn, 1, 8, [.nilFunc]⟩),
  (46, ⟨.fn, 1, 8, [.nilFunc]⟩),
  (47, ⟨.fn, 1, 8, [.nilFunc]⟩),
  (48, ⟨.int .u32, 1, 4, [.int .u32 0]⟩),
  (49, ⟨.fn, 1, 8, [.nilFunc]⟩),
  (50, ⟨.fn, 1, 8, [.nilFunc]⟩),
  (51, ⟨.slice 24, 1, 24, [.slice none 0 0]⟩),
  (52, ⟨.int .u64, 1, 8, [.int .u64 0]⟩),
  (53, ⟨.fn, 1, 8, [.nilFunc]⟩),
  (54, ⟨.int .u64, 1, 8, [.int .u64 0]⟩),
  (55, ⟨.fn, 1, 8, [.nilFunc]⟩),
  (56, ⟨.slice 5, 1, 24, [.slice none 0 0]⟩),
  (57, ⟨.fn, 1, 8, [.nilFunc]⟩),
  (58, ⟨.fn, 1, 8, [.nilFunc]⟩),
  (59, ⟨.fn, 1, 8, [.nilFunc]⟩),
  (61, ⟨.fn, 1, 8, [.nilFunc]⟩),
  (62, ⟨.fn, 1, 8, [.nilFunc]⟩),
  (63, ⟨.fn, 1, 8, [.nilFunc]⟩),
  (64, ⟨.fn, 1, 8, [.nilFunc]⟩),
  (65, ⟨.fn, 1, 8, [.nilFunc]⟩),
  (67, ⟨.fn, 1, 8, [.nilFunc]⟩),
  (68, ⟨.fn, 1, 8, [.nilFunc]⟩),
  (69, ⟨.fn, 1, 8, [.nilFunc]⟩),
  (71, ⟨.fn, 1, 8, [.nilFunc]⟩),
  (72, ⟨.fn, 1, 8, [.nilFunc]⟩),
  (73, ⟨.fn, 1, 8, [.nilFunc]⟩),
  (74, ⟨.fn, 1, 8, [.nilFunc]⟩),
  (75, ⟨.fn, 1, 8, [.nilFunc]⟩),
  (77, ⟨.fn, 1, 8, [.nilFunc]⟩),
  (78, ⟨.fn, 1, 8, [.nilFunc]⟩),
  (79, ⟨.fn, 1, 8, [.nilFunc]⟩),
  (80, ⟨.fn, 1, 8, [.nilFunc]⟩),
  (81, ⟨.fn, 1, 8, [.nilFunc]⟩),
  (82, ⟨.fn, 1, 8, [.nilFunc]⟩),
  (83, ⟨.fn, 1, 8, [.nilFunc]⟩),
  (84, ⟨.struct [(0, 2), (1, 2), (2, 2), (3, 2)], 4, 32, [.int .i64 0, .int .i64 0, .int .i64 0, .int .i64 0]⟩),
  (85, ⟨.struct [(0, 2), (1, 2), (2, 2), (3, 2)], 4, 32, [.int .i64 0, .int .i64 0, .int .i64 0, .int .i64 0]⟩),
  (86, ⟨.fn, 1, 8, [.nilFunc]⟩),
  (87, ⟨.fn, 1, 8, [.nilFunc]⟩),
  (88, ⟨.fn, 1, 8, [.nilFunc]⟩),
  (89, ⟨.fn, 1, 8, [.nilFunc]⟩),
  (90, ⟨.other, 1, 16, [.nilIface]⟩),
  (91, ⟨.other, 1, 16, [.nilIface]⟩),
  (92, ⟨.fn, 1, 8, [.nilFunc]⟩),
  (93, ⟨.fn, 1, 8, [.nilFunc]⟩),
  (94, ⟨.fn, 1, 8, [.nilFunc]⟩),
  (95, ⟨.ptr 112, 1, 8, [.pointer none]⟩),
  (96, ⟨.fn, 1, 8, [.nilFunc]⟩),
  (99, ⟨.arr 0 16, 0, 0, []⟩),
  (102, ⟨.fn, 1, 8, [.nilFunc]⟩),
  (103, ⟨.int .u8, 1, 1, [.int .u8 0]⟩),
  (104, ⟨.int .u8, 1, 1, [.int .u8 0]⟩),
  (105, ⟨.fn, 1, 8, [.nilFunc]⟩),
  (106, ⟨.ptr 5, 1, 8, [.pointer none]⟩),
  (107, ⟨.int .i32, 1, 4, [.int .i32 0]⟩),
  (108, ⟨.int .i32, 1, 4, [.int .i32 0]⟩),
  (111, ⟨.struct [(0, 9)], 1, 16, [.string .empty]⟩),
  (112, ⟨.struct [(0, 9)], 1, 16, [.string .empty]⟩)]
def T : Tbl := tblOf tblL
theorem T_ok : TblOk Try.prog T := tblOk_of (by kernel_rfl)
theorem mixed : Try.prog.follows .mixedOrders = true := by kernel_rfl
theorem T_1 : T 1 = some ⟨.fn, 1, 8, [.nilFunc]⟩ := by kernel_rfl
theorem T_2 : T 2 = some ⟨.int .i64, 1, 8, [.int .i64 0]⟩ := by kernel_rfl
theorem T_3 : T 3 = some ⟨.int .i64, 1, 8, [.int .i64 0]⟩ := by kernel_rfl
theorem T_4 : T 4 = some ⟨.bool, 1, 1, [.bool false]⟩ := by kernel_rfl
theorem T_5 : T 5 = some ⟨.int .u8, 1, 1, [.int .u8 0]⟩ := by kernel_rfl
theorem T_6 : T 6 = some ⟨.int .u8, 1, 1, [.int .u8 0]⟩ := by kernel_rfl
theorem T_7 : T 7 = some ⟨.struct [(0, 2), (1, 3), (2, 4), (3, 6)], 4, 24, [.int .i64 0, .int .i64 0, .bool false, .int .u8 0]⟩ := by kernel_rfl
theorem T_8 : T 8 = some ⟨.struct [(0, 2), (1, 3), (2, 4), (3, 6)], 4, 24, [.int .i64 0, .int .i64 0, .bool false, .int .u8 0]⟩ := by kernel_rfl
theorem T_9 : T 9 = some ⟨.str, 1, 16, [.string .empty]⟩ := by kernel_rfl
theorem T_10 : T 10 = some ⟨.str, 1, 16, [.string .empty]⟩ := by kernel_rfl
theorem T_11 : T 11 = some ⟨.str, 1, 16, [.string .empty]⟩ := by kernel_rfl
theorem T_12 : T 12 = some ⟨.int .u64, 1, 8, [.int .u64 0]⟩ := by kernel_rfl
theorem T_15 : T 15 = some ⟨.ptr 98, 1, 8, [.pointer none]⟩ := by kernel_rfl
theorem T_16 : T 16 = some ⟨.ptr 101, 1, 8, [.pointer none]⟩ := by kernel_rfl
theorem T_17 : T 17 = some ⟨.ptr 110, 1, 8, [.pointer none]⟩ := by kernel_rfl
theorem T_20 : T 20 = some ⟨.other, 1, 16, [.nilIface]⟩ := by kernel_rfl
theorem T_21 : T 21 = some ⟨.int .i32, 1, 4, [.int .i32 0]⟩ := by kernel_rfl
theorem T_22 : T 22 = some ⟨.slice 48, 1, 24, [.slice none 0 0]⟩ := by kernel_rfl
theorem T_23 : T 23 = some ⟨.struct [(0, 4), (1, 22)], 2, 32, [.bool false, .slice none 0 0]⟩ := by kernel_rfl
theorem T_24 : T 24 = some ⟨.struct [(0, 4), (1, 22)], 2, 32, [.bool false, .slice none 0 0]⟩ := by kernel_rfl
theorem T_25 : T 25 = some ⟨.fn, 1, 8, [.nilFunc]⟩ := by kernel_rfl
theorem T_26 : T 26 = some ⟨.fn, 1, 8, [.nilFunc]⟩ := by kernel_rfl
theorem T_28 : T 28 = some ⟨.fn, 1, 8, [.nilFunc]⟩ := by kernel_rfl
theorem T_29 : T 29 = some ⟨.fn, 1, 8, [.nilFunc]⟩ := by kernel_rfl
theorem T_30 : T 30 = some ⟨.fn, 1, 8, [.nilFunc]⟩ := by kernel_rfl
theorem T_31 : T 31 = some ⟨.fn, 1, 8, [.nilFunc]⟩ := by kernel_rfl
theorem T_32 : T 32 = some ⟨.fn, 1, 8, [.nilFunc]⟩ := by kernel_rfl
theorem T_33 : T 33 = some ⟨.fn, 1, 8, [.nilFunc]⟩ := by kernel_rfl
theorem T_34 : T 34 = some ⟨.int .i64, 1, 8, [.int .i64 0]⟩ := by kernel_rfl
theorem T_36 : T 36 = some ⟨.fn, 1, 8, [.nilFunc]⟩ := by kernel_rfl
theorem T_37 : T 37 = some ⟨.fn, 1, 8, [.nilFunc]⟩ := by kernel_rfl
theorem T_38 : T 38 = some ⟨.fn, 1, 8, [.nilFunc]⟩ := by kernel_rfl
theorem T_40 : T 40 = some ⟨.fn, 1, 8, [.nilFunc]⟩ := by kernel_rfl
theorem T_41 : T 41 = some ⟨.fn, 1, 8, [.nilFunc]⟩ := by kernel_rfl
theorem T_42 : T 42 = some ⟨.fn, 1, 8, [.nilFunc]⟩ := by kernel_rfl
theorem T_43 : T 43 = some ⟨.fn, 1, 8, [.nilFunc]⟩ := by kernel_rfl
theorem T_44 : T 44 = some ⟨.fn, 1, 8, [.nilFunc]⟩ := by kernel_rfl
theorem T_45 : T 45 = some ⟨.fn, 1, 8, [.nilFunc]⟩ := by kernel_rfl
theorem T_46 : T 46 = some ⟨.fn, 1, 8, [.nilFunc]⟩ := by kernel_rfl
theorem T_47 : T 47 = some ⟨.fn, 1, 8, [.nilFunc]⟩ := by kernel_rfl
theorem T_48 : T 48 = some ⟨.int .u32, 1, 4, [.int .u32 0]⟩ := by kernel_rfl
theorem T_49 : T 49 = some ⟨.fn, 1, 8, [.nilFunc]⟩ := by kernel_rfl
theorem T_50 : T 50 = some ⟨.fn, 1, 8, [.nilFunc]⟩ := by kernel_rfl
theorem T_51 : T 51 = some ⟨.slice 24, 1, 24, [.slice none 0 0]⟩ := by kernel_rfl
theorem T_52 : T 52 = some ⟨.int .u64, 1, 8, [.int .u64 0]⟩ := by kernel_rfl
theorem T_53 : T 53 = some ⟨.fn, 1, 8, [.nilFunc]⟩ := by kernel_rfl
theorem T_54 : T 54 = some ⟨.int .u64, 1, 8, [.int .u64 0]⟩ := by kernel_rfl
theorem T_55 : T 55 = some ⟨.fn, 1, 8, [.nilFunc]⟩ := by kernel_rfl
theorem T_56 : T 56 = some ⟨.slice 5, 1, 24, [.slice none 0 0]⟩ := by kernel_rfl
theorem T_57 : T 57 = some ⟨.fn, 1, 8, [.nilFunc]⟩ := by kernel_rfl
theorem T_58 : T 58 = some ⟨.fn, 1, 8, [.nilFunc]⟩ := by kernel_rfl
theorem T_59 : T 59 = some ⟨.fn, 1, 8, [.nilFunc]⟩ := by kernel_rfl
theorem T_61 : T 61 = some ⟨.fn, 1, 8, [.nilFunc]⟩ := by kernel_rfl
theorem T_62 : T 62 = some ⟨.fn, 1, 8, [.nilFunc]⟩ := by kernel_rfl
theorem T_63 : T 63 = some ⟨.fn, 1, 8, [.nilFunc]⟩ := by kernel_rfl
theorem T_64 : T 64 = some ⟨.fn, 1, 8, [.nilFunc]⟩ := by kernel_rfl
theorem T_65 : T 65 = some ⟨.fn, 1, 8, [.nilFunc]⟩ := by kernel_rfl
theorem T_67 : T 67 = some ⟨.fn, 1, 8, [.nilFunc]⟩ := by kernel_rfl
theorem T_68 : T 68 = some ⟨.fn, 1, 8, [.nilFunc]⟩ := by kernel_rfl
theorem T_69 : T 69 = some ⟨.fn, 1, 8, [.nilFunc]⟩ := by kernel_rfl
theorem T_71 : T 71 = some ⟨.fn, 1, 8, [.nilFunc]⟩ := by kernel_rfl
theorem T_72 : T 72 = some ⟨.fn, 1, 8, [.nilFunc]⟩ := by kernel_rfl
theorem T_73 : T 73 = some ⟨.fn, 1, 8, [.nilFunc]⟩ := by kernel_rfl
theorem T_74 : T 74 = some ⟨.fn, 1, 8, [.nilFunc]⟩ := by kernel_rfl
theorem T_75 : T 75 = some ⟨.fn, 1, 8, [.nilFunc]⟩ := by kernel_rfl
theorem T_77 : T 77 = some ⟨.fn, 1, 8, [.nilFunc]⟩ := by kernel_rfl
theorem T_78 : T 78 = some ⟨.fn, 1, 8, [.nilFunc]⟩ := by kernel_rfl
theorem T_79 : T 79 = some ⟨.fn, 1, 8, [.nilFunc]⟩ := by kernel_rfl
theorem T_80 : T 80 = some ⟨.fn, 1, 8, [.nilFunc]⟩ := by kernel_rfl
theorem T_81 : T 81 = some ⟨.fn, 1, 8, [.nilFunc]⟩ := by kernel_rfl
theorem T_82 : T 82 = some ⟨.fn, 1, 8, [.nilFunc]⟩ := by kernel_rfl
theorem T_83 : T 83 = some ⟨.fn, 1, 8, [.nilFunc]⟩ := by kernel_rfl
theorem T_84 : T 84 = some ⟨.struct [(0, 2), (1, 2), (2, 2), (3, 2)], 4, 32, [.int .i64 0, .int .i64 0, .int .i64 0, .int .i64 0]⟩ := by kernel_rfl
theorem T_85 : T 85 = some ⟨.struct [(0, 2), (1, 2), (2, 2), (3, 2)], 4, 32, [.int .i64 0, .int .i64 0, .int .i64 0, .int .i64 0]⟩ := by kernel_rfl
theorem T_86 : T 86 = some ⟨.fn, 1, 8, [.nilFunc]⟩ := by kernel_rfl
theorem T_87 : T 87 = some ⟨.fn, 1, 8, [.nilFunc]⟩ := by kernel_rfl
theorem T_88 : T 88 = some ⟨.fn, 1, 8, [.nilFunc]⟩ := by kernel_rfl
theorem T_89 : T 89 = some ⟨.fn, 1, 8, [.nilFunc]⟩ := by kernel_rfl
theorem T_90 : T 90 = some ⟨.other, 1, 16, [.nilIface]⟩ := by kernel_rfl
theorem T_91 : T 91 = some ⟨.other, 1, 16, [.nilIface]⟩ := by kernel_rfl
theorem T_92 : T 92 = some ⟨.fn, 1, 8, [.nilFunc]⟩ := by kernel_rfl
theorem T_93 : T 93 = some ⟨.fn, 1, 8, [.nilFunc]⟩ := by kernel_rfl
theorem T_94 : T 94 = some ⟨.fn, 1, 8, [.nilFunc]⟩ := by kernel_rfl
theorem T_95 : T 95 = some ⟨.ptr 112, 1, 8, [.pointer none]⟩ := by kernel_rfl
theorem T_96 : T 96 = some ⟨.fn, 1, 8, [.nilFunc]⟩ := by kernel_rfl
theorem T_99 : T 99 = some ⟨.arr 0 16, 0, 0, []⟩ := by kernel_rfl
theorem T_102 : T 102 = some ⟨.fn, 1, 8, [.nilFunc]⟩ := by kernel_rfl
theorem T_103 : T 103 = some ⟨.int .u8, 1, 1, [.int .u8 0]⟩ := by kernel_rfl
theorem T_104 : T 104 = some ⟨.int .u8, 1, 1, [.int .u8 0]⟩ := by kernel_rfl
theorem T_105 : T 105 = some ⟨.fn, 1, 8, [.nilFunc]⟩ := by kernel_rfl
theorem T_106 : T 106 = some ⟨.ptr 5, 1, 8, [.pointer none]⟩ := by kernel_rfl
theorem T_107 : T 107 = some ⟨.int .i32, 1, 4, [.int .i32 0]⟩ := by kernel_rfl
theorem T_108 : T 108 = some ⟨.int .i32, 1, 4, [.int .i32 0]⟩ := by kernel_rfl
theorem T_111 : T 111 = some ⟨.struct [(0, 9)], 1, 16, [.string .empty]⟩ := by kernel_rfl
theorem T_112 : T 112 = some ⟨.struct [(0, 9)], 1, 16, [.string .empty]⟩ := by kernel_rfl
end Go.Proofs.Ytgilijgbljgekaa
