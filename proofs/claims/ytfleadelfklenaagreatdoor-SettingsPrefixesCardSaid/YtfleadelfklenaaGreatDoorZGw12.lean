import Derived.Test.YtfleadelfklenaaGreatDoorZGw7
import Derived.Test.YtfleadelfklenaaGreatDoorProg
import Derived.Test.YtfleadelfklenaaGreatDoorZGw9
import Derived.Lib.Bytealg
import Derived.Lib.Strings
import Derived.Lib.Walk
import Derived.Lib.BufferWrite
import Derived.Lib.UnsafeStr
import Derived.Lib.Hide
import Derived.Lib.Buffer
import Derived.Laws.MakeOwn
import Derived.WalkKit
import Derived.Test.YtfleadelfklenaaGreatDoorZGw10
import Derived.Test.YtfleadelfklenaaGreatDoorZGw11
section
namespace Go.Proofs.YtfleadelfklenaaGreatDoor
open Go.VD
set_option linter.unusedVariables false
def tblL : List (TypeId × TI) := [(1, ⟨.fn, 1, 8, [.nilFunc]⟩),
  (2, ⟨.int .i64, 1, 8, [.int .i64 0]⟩),
  (3, ⟨.int .i64, 1, 8, [.int .i64 0]⟩),
  (4, ⟨.bool, 1, 1, [.bool false]⟩),
  (5, ⟨.int .u8, 1, 1, [.int .u8 0]⟩),
  (6, ⟨.int .u8, 1, 1, [.int .u8 0]⟩),
  (7, ⟨.struct [(0, 2), (1, 3), (2, 4), (3, 6)], 4, 24, [.int .i64 0, .int .i64 0, .bool false, .int .u8 0]⟩),
  (8, ⟨.struct [(0, 2), (1, 3), (2, 4), (3, 6)], 4, 24, [.int .i64 0, .int .i64 0, .bool false, .int .u8 0]⟩),
  (9, ⟨.str, 1, 16, [.string .empty]⟩),
  (10, ⟨.str, 1, 16, [.string .empty]⟩),
  (11, ⟨.str, 1, 16, [.string .empty]⟩),
  (12, ⟨.int .u64, 1, 8, [.int .u64 0]⟩),
  (15, ⟨.ptr 295, 1, 8, [.pointer none]⟩),
  (16, ⟨.ptr 298, 1, 8, [.pointer none]⟩),
  (17, ⟨.ptr 306, 1, 8, [.pointer none]⟩),
  (20, ⟨.other, 1, 16, [.nilIface]⟩),
  (21, ⟨.int .i32, 1, 4, [.int .i32 0]⟩),
  (22, ⟨.slice 9, 1, 24, [.slice none 0 0]⟩),
  (23, ⟨.slice 78, 1, 24, [.slice none 0 0]⟩),
  (24, ⟨.slice 81, 1, 24, [.slice none 0 0]⟩),
  (25, ⟨.slice 72, 1, 24, [.slice none 0 0]⟩),
  (26, ⟨.struct [(0, 9), (1, 22), (2, 23), (3, 24), (4, 25)], 5, 112, [.string .empty, .slice none 0 0, .slice none 0 0, .slice none 0 0, .slice none 0 0]⟩),
  (27, ⟨.struct [(0, 9), (1, 22), (2, 23), (3, 24), (4, 25)], 5, 112, [.string .empty, .slice none 0 0, .slice none 0 0, .slice none 0 0, .slice none 0 0]⟩),
  (28, ⟨.fn, 1, 8, [.nilFunc]⟩),
  (29, ⟨.fn, 1, 8, [.nilFunc]⟩),
  (30, ⟨.slice 75, 1, 24, [.slice none 0 0]⟩),
  (31, ⟨.fn, 1, 8, [.nilFunc]⟩),
  (32, ⟨.fn, 1, 8, [.nilFunc]⟩),
  (33, ⟨.int .i64, 1, 8, [.int .i64 0]⟩),
  (34, ⟨.fn, 1, 8, [.nilFunc]⟩),
  (36, ⟨.fn, 1, 8, [.nilFunc]⟩),
  (37, ⟨.fn, 1, 8, [.nilFunc]⟩),
  (38, ⟨.slice 55, 1, 24, [.slice none 0 0]⟩),
  (39, ⟨.fn, 1, 8, [.nilFunc]⟩),
  (41, ⟨.fn, 1, 8, [.nilFunc]⟩),
  (42, ⟨.fn, 1, 8, [.nilFunc]⟩),
  (43, ⟨.struct [(0, 4), (1, 4), (2, 3), (3, 3), (4, 3), (5, 3)], 6, 40, [.bool false, .bool false, .int .i64 0, .int .i64 0, .int .i64 0, .int .i64 0]⟩),
  (44, ⟨.struct [(0, 4), (1, 4), (2, 3), (3, 3), (4, 3), (5, 3)], 6, 40, [.bool false, .bool false, .int .i64 0, .int .i64 0, .int .i64 0, .int .i64 0]⟩),
  (45, ⟨.arr 3 44, 18, 120, [.bool false, .bool false, .int .i64 0, .int .i64 0, .int .i64 0, .int .i64 0, .bool false, .bool false, .int .i64 0, .int .i64 0, .int .i64 0, .int .i64 0, .bool false, .bool false, .int .i64 0, .int .i64 0, .int .i64 0, .int .i64 0]⟩),
  (46, ⟨.struct [(0, 4), (1, 3), (2, 3)], 3, 24, [.bool false, .int .i64 0, .int .i64 0]⟩),
  (47, ⟨.struct [(0, 4), (1, 3), (2, 3)], 3, 24, [.bool false, .int .i64 0, .int .i64 0]⟩),
  (48, ⟨.struct [(0, 4), (1, 3), (2, 3)], 3, 24, [.bool false, .int .i64 0, .int .i64 0]⟩),
  (49, ⟨.struct [(0, 4), (1, 3), (2, 3)], 3, 24, [.bool false, .int .i64 0, .int .i64 0]⟩),
  (50, ⟨.slice 163, 1, 24, [.slice none 0 0]⟩),
  (51, ⟨.slice 161, 1, 24, [.slice none 0 0]⟩),
  (52, ⟨.slice 171, 1, 24, [.slice none 0 0]⟩),
  (53, ⟨.slice 174, 1, 24, [.slice none 0 0]⟩),
  (54, ⟨.struct [(0, 9), (1, 3), (2, 3), (3, 45), (21, 3), (22, 3), (23, 3), (24, 3), (25, 3), (26, 3), (27, 47), (30, 49), (33, 47), (36, 3), (37, 3), (38, 3), (39, 47), (42, 47), (45, 3), (46, 3), (47, 3), (48, 3), (49, 50), (50, 51), (51, 52), (52, 53)], 53, 472, [.string .empty, .int .i64 0, .int .i64 0, .bool false, .bool false, .int .i64 0, .int .i64 0, .int .i64 0, .int .i64 0, .bool false, .bool false, .int .i64 0, .int .i64 0, .int .i64 0, .int .i64 0, .bool false, .bool false, .int .i64 0, .int .i64 0, .int .i64 0, .int .i64 0, .int .i64 0, .int .i64 0, .int .i64 0, .int .i64 0, .int .i64 0, .int .i64 0, .bool false, .int .i64 0, .int .i64 0, .bool false, .int .i64 0, .int .i64 0, .bool false, .int .i64 0, .int .i64 0, .int .i64 0, .int .i64 0, .int .i64 0, .bool false, .int .i64 0, .int .i64 0, .bool false, .int .i64 0, .int .i64 0, .int .i64 0, .int .i64 0, .int .i64 0, .int .i64 0, .slice none 0 0, .slice none 0 0, .slice none 0 0, .slice none 0 0]⟩),
  (55, ⟨.struct [(0, 9), (1, 3), (2, 3), (3, 45), (21, 3), (22, 3), (23, 3), (24, 3), (25, 3), (26, 3), (27, 47), (30, 49), (33, 47), (36, 3), (37, 3), (38, 3), (39, 47), (42, 47), (45, 3), (46, 3), (47, 3), (48, 3), (49, 50), (50, 51), (51, 52), (52, 53)], 53, 472, [.string .empty, .int .i64 0, .int .i64 0, .bool false, .bool false, .int .i64 0, .int .i64 0, .int .i64 0, .int .i64 0, .bool false, .bool false, .int .i64 0, .int .i64 0, .int .i64 0, .int .i64 0, .bool false, .bool false, .int .i64 0, .int .i64 0, .int .i64 0, .int .i64 0, .int .i64 0, .int .i64 0, .int .i64 0, .int .i64 0, .int .i64 0, .int .i64 0, .bool false, .int .i64 0, .int .i64 0, .bool false, .int .i64 0, .int .i64 0, .bool false, .int .i64 0, .int .i64 0, .int .i64 0, .int .i64 0, .int .i64 0, .bool false, .int .i64 0, .int .i64 0, .bool false, .int .i64 0, .int .i64 0, .int .i64 0, .int .i64 0, .int .i64 0, .int .i64 0, .slice none 0 0, .slice none 0 0, .slice none 0 0, .slice none 0 0]⟩),
  (56, ⟨.fn, 1, 8, [.nilFunc]⟩),
  (57, ⟨.fn, 1, 8, [.nilFunc]⟩),
  (58, ⟨.fn, 1, 8, [.nilFunc]⟩),
  (60, ⟨.fn, 1, 8, [.nilFunc]⟩),
  (61, ⟨.fn, 1, 8, [.nilFunc]⟩),
  (62, ⟨.fn, 1, 8, [.nilFunc]⟩),
  (63, ⟨.struct [(0, 27), (5, 38), (6, 3), (7, 3)], 8, 152, [.string .empty, .slice none 0 0, .slice none 0 0, .slice none 0 0, .slice none 0 0, .slice none 0 0, .int .i64 0, .int .i64 0]⟩),
  (64, ⟨.struct [(0, 27), (5, 38), (6, 3), (7, 3)], 8, 152, [.string .empty, .slice none 0 0, .slice none 0 0, .slice none 0 0, .slice none 0 0, .slice none 0 0, .int .i64 0, .int .i64 0]⟩),
  (65, ⟨.fn, 1, 8, [.nilFunc]⟩),
  (67, ⟨.fn, 1, 8, [.nilFunc]⟩),
  (68, ⟨.struct [(0, 3), (1, 3)], 2, 16, [.int .i64 0, .int .i64 0]⟩),
  (69, ⟨.struct [(0, 3), (1, 3)], 2, 16, [.int .i64 0, .int .i64 0]⟩),
  (70, ⟨.slice 153, 1, 24, [.slice none 0 0]⟩),
  (71, ⟨.struct [(0, 9), (1, 3), (2, 3), (3, 3), (4, 69), (6, 70), (7, 4), (8, 3), (9, 3), (10, 3), (11, 3)], 12, 120, [.string .empty, .int .i64 0, .int .i64 0, .int .i64 0, .int .i64 0, .int .i64 0, .slice none 0 0, .bool false, .int .i64 0, .int .i64 0, .int .i64 0, .int .i64 0]⟩),
  (72, ⟨.struct [(0, 9), (1, 3), (2, 3), (3, 3), (4, 69), (6, 70), (7, 4), (8, 3), (9, 3), (10, 3), (11, 3)], 12, 120, [.string .empty, .int .i64 0, .int .i64 0, .int .i64 0, .int .i64 0, .int .i64 0, .slice none 0 0, .bool false, .int .i64 0, .int .i64 0, .int .i64 0, .int .i64 0]⟩),
  (73, ⟨.slice 84, 1, 24, [.slice none 0 0]⟩),
  (74, ⟨.struct [(0, 3), (1, 73), (2, 4), (3, 30)], 4, 64, [.int .i64 0, .slice none 0 0, .bool false, .slice none 0 0]⟩),
  (75, ⟨.struct [(0, 3), (1, 73), (2, 4), (3, 30)], 4, 64, [.int .i64 0, .slice none 0 0, .bool false, .slice none 0 0]⟩),
  (76, ⟨.fn, 1, 8, [.nilFunc]⟩),
  (77, ⟨.struct [(0, 9), (1, 69), (3, 69)], 5, 48, [.string .empty, .int .i64 0, .int .i64 0, .int .i64 0, .int .i64 0]⟩),
  (78, ⟨.struct [(0, 9), (1, 69), (3, 69)], 5, 48, [.string .empty, .int .i64 0, .int .i64 0, .int .i64 0, .int .i64 0]⟩),
  (79, ⟨.fn, 1, 8, [.nilFunc]⟩),
  (80, ⟨.struct [(0, 9), (1, 3), (2, 69), (4, 69)], 6, 56, [.string .empty, .int .i64 0, .int .i64 0, .int .i64 0, .int .i64 0, .int .i64 0]⟩),
  (81, ⟨.struct [(0, 9), (1, 3), (2, 69), (4, 69)], 6, 56, [.string .empty, .int .i64 0, .int .i64 0, .int .i64 0, .int .i64 0, .int .i64 0]⟩),
  (82, ⟨.fn, 1, 8, [.nilFunc]⟩),
  (83, ⟨.struct [(0, 9), (1, 4)], 2, 24, [.string .empty, .bool false]⟩),
  (84, ⟨.struct [(0, 9), (1, 4)], 2, 24, [.string .empty, .bool false]⟩),
  (85, ⟨.fn, 1, 8, [.nilFunc]⟩),
  (86, ⟨.slice 3, 1, 24, [.slice none 0 0]⟩),
  (87, ⟨.fn, 1, 8, [.nilFunc]⟩),
  (88, ⟨.fn, 1, 8, [.nilFunc]⟩),
  (89, ⟨.fn, 1, 8, [.nilFunc]⟩),
  (90, ⟨.fn, 1, 8, [.nilFunc]⟩),
  (91, ⟨.fn, 1, 8, [.nilFunc]⟩),
  (92, ⟨.fn, 1, 8, [.nilFunc]⟩),
  (93, ⟨.map 9 226, 1, 8, [.map none]⟩),
  (94, ⟨.struct [(0, 27), (5, 93)], 6, 120, [.string .empty, .slice none 0 0, .slice none 0 0, .slice none 0 0, .slice none 0 0, .map none]⟩),
  (95, ⟨.struct [(0, 27), (5, 93)], 6, 120, [.string .empty, .slice none 0 0, .slice none 0 0, .slice none 0 0, .slice none 0 0, .map none]⟩),
  (96, ⟨.fn, 1, 8, [.nilFunc]⟩),
  (97, ⟨.struct [(0, 95), (6, 3)], 7, 128, [.string .empty, .slice none 0 0, .slice none 0 0, .slice none 0 0, .slice none 0 0, .map none, .int .i64 0]⟩),
  (98, ⟨.struct [(0, 95), (6, 3)], 7, 128, [.string .empty, .slice none 0 0, .slice none 0 0, .slice none 0 0, .slice none 0 0, .map none, .int .i64 0]⟩),
  (99, ⟨.map 9 101, 1, 8, [.map none]⟩),
  (100, ⟨.fn, 1, 8, [.nilFunc]⟩),
  (101, ⟨.fn, 1, 8, [.nilFunc]⟩),
  (103, ⟨.fn, 1, 8, [.nilFunc]⟩),
  (104, ⟨.fn, 1, 8, [.nilFunc]⟩),
  (105, ⟨.fn, 1, 8, [.nilFunc]⟩),
  (106, ⟨.fn, 1, 8, [.nilFunc]⟩),
  (107, ⟨.fn, 1, 8, [.nilFunc]⟩),
  (108, ⟨.fn, 1, 8, [.nilFunc]⟩),
  (109, ⟨.fn, 1, 8, [.nilFunc]⟩),
  (110, ⟨.map 9 4, 1, 8, [.map none]⟩),
  (111, ⟨.map 3 4, 1, 8, [.map none]⟩),
  (112, ⟨.struct [(0, 25), (1, 110), (2, 111)], 3, 40, [.slice none 0 0, .map none, .map none]⟩),
  (113, ⟨.struct [(0, 25), (1, 110), (2, 111)], 3, 40, [.slice none 0 0, .map none, .map none]⟩),
  (114, ⟨.fn, 1, 8, [.nilFunc]⟩),
  (115, ⟨.fn, 1, 8, [.nilFunc]⟩),
  (116, ⟨.fn, 1, 8, [.nilFunc]⟩),
  (117, ⟨.fn, 1, 8, [.nilFunc]⟩),
  (118, ⟨.fn, 1, 8, [.nilFunc]⟩),
  (119, ⟨.map 9 3, 1, 8, [.map none]⟩),
  (120, ⟨.map 9 213, 1, 8, [.map none]⟩),
  (121, ⟨.struct [(0, 113), (3, 119), (4, 120)], 5, 56, [.slice none 0 0, .map none, .map none, .map none, .map none]⟩),
  (122, ⟨.struct [(0, 113), (3, 119), (4, 120)], 5, 56, [.slice none 0 0, .map none, .map none, .map none, .map none]⟩),
  (123, ⟨.fn, 1, 8, [.nilFunc]⟩),
  (124, ⟨.fn, 1, 8, [.nilFunc]⟩),
  (126, ⟨.fn, 1, 8, [.nilFunc]⟩),
  (127, ⟨.ptr 129, 1, 8, [.pointer none]⟩),
  (128, ⟨.struct [(0, 9), (1, 3), (2, 3)], 3, 32, [.string .empty, .int .i64 0, .int .i64 0]⟩),
  (129, ⟨.struct [(0, 9), (1, 3), (2, 3)], 3, 32, [.string .empty, .int .i64 0, .int .i64 0]⟩),
  (130, ⟨.ptr 133, 1, 8, [.pointer none]⟩),
  (131, ⟨.slice 30, 1, 24, [.slice none 0 0]⟩),
  (132, ⟨.struct [(0, 131), (1, 30), (2, 75), (6, 4), (7, 3)], 8, 128, [.slice none 0 0, .slice none 0 0, .int .i64 0, .slice none 0 0, .bool false, .slice none 0 0, .bool false, .int .i64 0]⟩),
  (133, ⟨.struct [(0, 131), (1, 30), (2, 75), (6, 4), (7, 3)], 8, 128, [.slice none 0 0, .slice none 0 0, .int .i64 0, .slice none 0 0, .bool false, .slice none 0 0, .bool false, .int .i64 0]⟩),
  (134, ⟨.struct [(0, 3), (1, 84), (3, 3)], 4, 40, [.int .i64 0, .string .empty, .bool false, .int .i64 0]⟩),
  (135, ⟨.struct [(0, 3), (1, 84), (3, 3)], 4, 40, [.int .i64 0, .string .empty, .bool false, .int .i64 0]⟩),
  (137, ⟨.fn, 1, 8, [.nilFunc]⟩),
  (138, ⟨.fn, 1, 8, [.nilFunc]⟩),
  (139, ⟨.fn, 1, 8, [.nilFunc]⟩),
  (140, ⟨.fn, 1, 8, [.nilFunc]⟩),
  (141, ⟨.fn, 1, 8, [.nilFunc]⟩),
  (142, ⟨.fn, 1, 8, [.nilFunc]⟩),
  (143, ⟨.fn, 1, 8, [.nilFunc]⟩),
  (144, ⟨.fn, 1, 8, [.nilFunc]⟩),
  (145, ⟨.fn, 1, 8, [.nilFunc]⟩),
  (146, ⟨.fn, 1, 8, [.nilFunc]⟩),
  (147, ⟨.fn, 1, 8, [.nilFunc]⟩),
  (148, ⟨.fn, 1, 8, [.nilFunc]⟩),
  (149, ⟨.fn, 1, 8, [.nilFunc]⟩),
  (150, ⟨.fn, 1, 8, [.nilFunc]⟩),
  (151, ⟨.fn, 1, 8, [.nilFunc]⟩),
  (152, ⟨.struct [(0, 3), (1, 3)], 2, 16, [.int .i64 0, .int .i64 0]⟩),
  (153, ⟨.struct [(0, 3), (1, 3)], 2, 16, [.int .i64 0, .int .i64 0]⟩),
  (154, ⟨.fn, 1, 8, [.nilFunc]⟩),
  (155, ⟨.fn, 1, 8, [.nilFunc]⟩),
  (156, ⟨.fn, 1, 8, [.nilFunc]⟩),
  (157, ⟨.fn, 1, 8, [.nilFunc]⟩),
  (158, ⟨.ptr 98, 1, 8, [.pointer none]⟩),
  (159, ⟨.fn, 1, 8, [.nilFunc]⟩),
  (160, ⟨.struct [(0, 9), (1, 22)], 2, 40, [.string .empty, .slice none 0 0]⟩),
  (161, ⟨.struct [(0, 9), (1, 22)], 2, 40, [.string .empty, .slice none 0 0]⟩),
  (162, ⟨.struct [(0, 9), (1, 9)], 2, 32, [.string .empty, .string .empty]⟩),
  (163, ⟨.struct [(0, 9), (1, 9)], 2, 32, [.string .empty, .string .empty]⟩),
  (164, ⟨.slice 115, 1, 24, [.slice none 0 0]⟩),
  (165, ⟨.fn, 1, 8, [.nilFunc]⟩),
  (166, ⟨.fn, 1, 8, [.nilFunc]⟩),
  (167, ⟨.fn, 1, 8, [.nilFunc]⟩),
  (168, ⟨.fn, 1, 8, [.nilFunc]⟩),
  (169, ⟨.fn, 1, 8, [.nilFunc]⟩),
  (170, ⟨.struct [(0, 9), (1, 3), (2, 3)], 3, 32, [.string .empty, .int .i64 0, .int .i64 0]⟩),
  (171, ⟨.struct [(0, 9), (1, 3), (2, 3)], 3, 32, [.string .empty, .int .i64 0, .int .i64 0]⟩),
  (172, ⟨.fn, 1, 8, [.nilFunc]⟩),
  (173, ⟨.struct [(0, 9), (1, 9), (2, 9), (3, 9)], 4, 64, [.string .empty, .string .empty, .string .empty, .string .empty]⟩),
  (174, ⟨.struct [(0, 9), (1, 9), (2, 9), (3, 9)], 4, 64, [.string .empty, .string .empty, .string .empty, .string .empty]⟩),
  (175, ⟨.fn, 1, 8, [.nilFunc]⟩),
  (176, ⟨.fn, 1, 8, [.nilFunc]⟩),
  (177, ⟨.fn, 1, 8, [.nilFunc]⟩),
  (178, ⟨.fn, 1, 8, [.nilFunc]⟩),
  (180, ⟨.fn, 1, 8, [.nilFunc]⟩),
  (181, ⟨.fn, 1, 8, [.nilFunc]⟩),
  (182, ⟨.ptr 55, 1, 8, [.pointer none]⟩),
  (183, ⟨.fn, 1, 8, [.nilFunc]⟩),
  (184, ⟨.fn, 1, 8, [.nilFunc]⟩),
  (185, ⟨.fn, 1, 8, [.nilFunc]⟩),
  (186, ⟨.slice 33, 1, 24, [.slice none 0 0]⟩),
  (187, ⟨.ptr 95, 1, 8, [.pointer none]⟩),
  (188, ⟨.fn, 1, 8, [.nilFunc]⟩),
  (189, ⟨.arr 256 5, 256, 256, [.int .u8 0, .int .u8 0, .int .u8 0, .int .u8 0, .int .u8 0, .int .u8 0, .int .u8 0, .int .u8 0, .int .u8 0, .int .u8 0, .int .u8 0, .int .u8 0, .int .u8 0, .int .u8 0, .int .u8 0, .int .u8 0, .int .u8 0, .int .u8 0, .int .u8 0, .int .u8 0, .int .u8 0, .int .u8 0, .int .u8 0, .int .u8 0, .int .u8 0, .int .u8 0, .int .u8 0, .int .u8 0, .int .u8 0, .int .u8 0, .int .u8 0, .int .u8 0, .int .u8 0, .int .u8 0, .int .u8 0, .int .u8 0, .int .u8 0, .int .u8 0, .int .u8 0, .int .u8 0, .int .u8 0, .int .u8 0, .int .u8 0, .int .u8 0, .int .u8 0, .int .u8 0, .int .u8 0, .int .u8 0, .int .u8 0, .int .u8 0, .int .u8 0, .int .u8 0, .int .u8 0, .int .u8 0, .int .u8 0, .int .u8 0, .int .u8 0, .int .u8 0, .int .u8 0, .int .u8 0, .int .u8 0, .int .u8 0, .int .u8 0, .int .u8 0, .int .u8 0, .int .u8 0, .int .u8 0, .int .u8 0, .int .u8 0, .int .u8 0, .int .u8 0, .int .u8 0, .int .u8 0, .int .u8 0, .int .u8 0, .int .u8 0, .int .u8 0, .int .u8 0, .int .u8 0, .int .u8 0, .int .u8 0, .int .u8 0, .int .u8 0, .int .u8 0, .int .u8 0, .int .u8 0, .int .u8 0, .int .u8 0, .int .u8 0, .int .u8 0, .int .u8 0, .int .u8 0, .int .u8 0, .int .u8 0, .int .u8 0, .int .u8 0, .int .u8 0, .int .u8 0, .int .u8 0, .int .u8 0, .int .u8 0, .int .u8 0, .int .u8 0, .int .u8 0, .int .u8 0, .int .u8 0, .int .u8 0, .int .u8 0, .int .u8 0, .int .u8 0, .int .u8 0, .int .u8 0, .int .u8 0, .int .u8 0, .int .u8 0, .int .u8 0, .int .u8 0, .int .u8 0, .int .u8 0, .int .u8 0, .int .u8 0, .int .u8 0, .int .u8 0, .int .u8 0, .int .u8 0, .int .u8 0, .int .u8 0, .int .u8 0, .int .u8 0, .int .u8 0, .int .u8 0, .int .u8 0, .int .u8 0, .int .u8 0, .int .u8 0, .int .u8 0, .int .u8 0, .int .u8 0, .int .u8 0, .int .u8 0, .int .u8 0, .int .u8 0, .int .u8 0, .int .u8 0, .int .u8 0, .int .u8 0, .int .u8 0, .int .u8 0, .int .u8 0, .int .u8 0, .int .u8 0, .int .u8 0, .int .u8 0, .int .u8 0, .int .u8 0, .int .u8 0, .int .u8 0, .int .u8 0, .int .u8 0, .int .u8 0, .int .u8 0, .int .u8 0, .int .u8 0, .int .u8 0, .int .u8 0, .int .u8 0, .int .u8 0, .int .u8 0, .int .u8 0, .int .u8 0, .int .u8 0, .int .u8 0, .int .u8 0, .int .u8 0, .int .u8 0, .int .u8 0, .int .u8 0, .int .u8 0, .int .u8 0, .int .u8 0, .int .u8 0, .int .u8 0, .int .u8 0, .int .u8 0, .int .u8 0, .int .u8 0, .int .u8 0, .int .u8 0, .int .u8 0, .int .u8 0, .int .u8 0, .int .u8 0, .int .u8 0, .int .u8 0, .int .u8 0, .int .u8 0, .int .u8 0, .int .u8 0, .int .u8 0, .int .u8 0, .int .u8 0, .int .u8 0, .int .u8 0, .int .u8 0, .int .u8 0, .int .u8 0, .int .u8 0, .int .u8 0, .int .u8 0, .int .u8 0, .int .u8 0, .int .u8 0, .int .u8 0, .int .u8 0, .int .u8 0, .int .u8 0, .int .u8 0, .int .u8 0, .int .u8 0, .int .u8 0, .int .u8 0, .int .u8 0, .int .u8 0, .int .u8 0, .int .u8 0, .int .u8 0, .int .u8 0, .int .u8 0, .int .u8 0, .int .u8 0, .int .u8 0, .int .u8 0, .int .u8 0, .int .u8 0, .int .u8 0, .int .u8 0, .int .u8 0, .int .u8 0, .int .u8 0, .int .u8 0, .int .u8 0, .int .u8 0, .int .u8 0, .int .u8 0, .int .u8 0, .int .u8 0, .int .u8 0, .int .u8 0, .int .u8 0, .int .u8 0, .int .u8 0, .int .u8 0, .int .u8 0, .int .u8 0, .int .u8 0, .int .u8 0]⟩),
  (190, ⟨.fn, 1, 8, [.nilFunc]⟩),
  (191, ⟨.fn, 1, 8, [.nilFunc]⟩),
  (192, ⟨.slice 5, 1, 24, [.slice none 0 0]⟩),
  (194, ⟨.fn, 1, 8, [.nilFunc]⟩),
  (196, ⟨.fn, 1, 8, [.nilFunc]⟩),
  (197, ⟨.fn, 1, 8, [.nilFunc]⟩),
  (198, ⟨.ptr 72, 1, 8, [.pointer none]⟩),
  (199, ⟨.fn, 1, 8, [.nilFunc]⟩),
  (200, ⟨.fn, 1, 8, [.nilFunc]⟩),
  (201, ⟨.fn, 1, 8, [.nilFunc]⟩),
  (202, ⟨.fn, 1, 8, [.nilFunc]⟩),
  (203, ⟨.fn, 1, 8, [.nilFunc]⟩),
  (204, ⟨.fn, 1, 8, [.nilFunc]⟩),
  (205, ⟨.fn, 1, 8, [.nilFunc]⟩),
  (206, ⟨.fn, 1, 8, [.nilFunc]⟩),
  (207, ⟨.fn, 1, 8, [.nilFunc]⟩),
  (208, ⟨.fn, 1, 8, [.nilFunc]⟩),
  (209, ⟨.fn, 1, 8, [.nilFunc]⟩),
  (210, ⟨.fn, 1, 8, [.nilFunc]⟩),
  (212, ⟨.fn, 1, 8, [.nilFunc]⟩),
  (213, ⟨.slice 215, 1, 24, [.slice none 0 0]⟩),
  (214, ⟨.struct [(0, 9), (1, 210)], 2, 24, [.string .empty, .nilFunc]⟩),
  (215, ⟨.struct [(0, 9), (1, 210)], 2, 24, [.string .empty, .nilFunc]⟩),
  (216, ⟨.fn, 1, 8, [.nilFunc]⟩),
  (217, ⟨.struct [(0, 22), (1, 86), (2, 9)], 3, 64, [.slice none 0 0, .slice none 0 0, .string .empty]⟩),
  (218, ⟨.struct [(0, 22), (1, 86), (2, 9)], 3, 64, [.slice none 0 0, .slice none 0 0, .string .empty]⟩),
  (219, ⟨.fn, 1, 8, [.nilFunc]⟩),
  (220, ⟨.fn, 1, 8, [.nilFunc]⟩),
  (221, ⟨.fn, 1, 8, [.nilFunc]⟩),
  (223, ⟨.fn, 1, 8, [.nilFunc]⟩),
  (225, ⟨.struct [(0, 9), (1, 3)], 2, 24, [.string .empty, .int .i64 0]⟩),
  (226, ⟨.struct [(0, 9), (1, 3)], 2, 24, [.string .empty, .int .i64 0]⟩),
  (228, ⟨.slice 230, 1, 24, [.slice none 0 0]⟩),
  (229, ⟨.struct [(0, 3), (1, 3)], 2, 16, [.int .i64 0, .int .i64 0]⟩),
  (230, ⟨.struct [(0, 3), (1, 3)], 2, 16, [.int .i64 0, .int .i64 0]⟩),
  (231, ⟨.int .u32, 1, 4, [.int .u32 0]⟩),
  (232, ⟨.fn, 1, 8, [.nilFunc]⟩),
  (233, ⟨.ptr 258, 1, 8, [.pointer none]⟩),
  (234, ⟨.fn, 1, 8, [.nilFunc]⟩),
  (236, ⟨.fn, 1, 8, [.nilFunc]⟩),
  (237, ⟨.fn, 1, 8, [.nilFunc]⟩),
  (238, ⟨.fn, 1, 8, [.nilFunc]⟩),
  (239, ⟨.fn, 1, 8, [.nilFunc]⟩),
  (241, ⟨.fn, 1, 8, [.nilFunc]⟩),
  (242, ⟨.fn, 1, 8, [.nilFunc]⟩),
  (243, ⟨.fn, 1, 8, [.nilFunc]⟩),
  (244, ⟨.ptr 5, 1, 8, [.pointer none]⟩),
  (245, ⟨.ptr 247, 1, 8, [.pointer none]⟩),
  (246, ⟨.struct [(0, 245), (1, 192)], 2, 32, [.pointer none, .slice none 0 0]⟩),
  (247, ⟨.struct [(0, 245), (1, 192)], 2, 32, [.pointer none, .slice none 0 0]⟩),
  (248, ⟨.fn, 1, 8, [.nilFunc]⟩),
  (249, ⟨.other, 1, 16, [.nilIface]⟩),
  (250, ⟨.other, 1, 16, [.nilIface]⟩),
  (252, ⟨.fn, 1, 8, [.nilFunc]⟩),
  (253, ⟨.fn, 1, 8, [.nilFunc]⟩),
  (254, ⟨.fn, 1, 8, [.nilFunc]⟩),
  (255, ⟨.slice 261, 1, 24, [.slice none 0 0]⟩),
  (256, ⟨.slice 264, 1, 24, [.slice none 0 0]⟩),
  (257, ⟨.struct [(0, 255), (1, 256), (2, 3)], 3, 56, [.slice none 0 0, .slice none 0 0, .int .i64 0]⟩),
  (258, ⟨.struct [(0, 255), (1, 256), (2, 3)], 3, 56, [.slice none 0 0, .slice none 0 0, .int .i64 0]⟩),
  (259, ⟨.int .u16, 1, 2, [.int .u16 0]⟩),
  (260, ⟨.struct [(0, 259), (1, 259), (2, 259)], 3, 6, [.int .u16 0, .int .u16 0, .int .u16 0]⟩),
  (261, ⟨.struct [(0, 259), (1, 259), (2, 259)], 3, 6, [.int .u16 0, .int .u16 0, .int .u16 0]⟩),
  (262, ⟨.fn, 1, 8, [.nilFunc]⟩),
  (263, ⟨.struct [(0, 231), (1, 231), (2, 231)], 3, 12, [.int .u32 0, .int .u32 0, .int .u32 0]⟩),
  (264, ⟨.struct [(0, 231), (1, 231), (2, 231)], 3, 12, [.int .u32 0, .int .u32 0, .int .u32 0]⟩),
  (265, ⟨.fn, 1, 8, [.nilFunc]⟩),
  (266, ⟨.arr 24 5, 24, 24, [.int .u8 0, .int .u8 0, .int .u8 0, .int .u8 0, .int .u8 0, .int .u8 0, .int .u8 0, .int .u8 0, .int .u8 0, .int .u8 0, .int .u8 0, .int .u8 0, .int .u8 0, .int .u8 0, .int .u8 0, .int .u8 0, .int .u8 0, .int .u8 0, .int .u8 0, .int .u8 0, .int .u8 0, .int .u8 0, .int .u8 0, .int .u8 0]⟩),
  (267, ⟨.int .u64, 1, 8, [.int .u64 0]⟩),
  (268, ⟨.fn, 1, 8, [.nilFunc]⟩),
  (269, ⟨.fn, 1, 8, [.nilFunc]⟩),
  (271, ⟨.fn, 1, 8, [.nilFunc]⟩),
  (272, ⟨.fn, 1, 8, [.nilFunc]⟩),
  (273, ⟨.fn, 1, 8, [.nilFunc]⟩),
  (274, ⟨.ptr 218, 1, 8, [.pointer none]⟩),
  (275, ⟨.ptr 261, 1, 8, [.pointer none]⟩),
  (276, ⟨.int .u64, 1, 8, [.int .u64 0]⟩),
  (277, ⟨.ptr 264, 1, 8, [.pointer none]⟩),
  (278, ⟨.fn, 1, 8, [.nilFunc]⟩),
  (279, ⟨.fn, 1, 8, [.nilFunc]⟩),
  (280, ⟨.arr 20 267, 20, 160, [.int .u64 0, .int .u64 0, .int .u64 0, .int .u64 0, .int .u64 0, .int .u64 0, .int .u64 0, .int .u64 0, .int .u64 0, .int .u64 0, .int .u64 0, .int .u64 0, .int .u64 0, .int .u64 0, .int .u64 0, .int .u64 0, .int .u64 0, .int .u64 0, .int .u64 0, .int .u64 0]⟩),
  (281, ⟨.arr 65 5, 65, 65, [.int .u8 0, .int .u8 0, .int .u8 0, .int .u8 0, .int .u8 0, .int .u8 0, .int .u8 0, .int .u8 0, .int .u8 0, .int .u8 0, .int .u8 0, .int .u8 0, .int .u8 0, .int .u8 0, .int .u8 0, .int .u8 0, .int .u8 0, .int .u8 0, .int .u8 0, .int .u8 0, .int .u8 0, .int .u8 0, .int .u8 0, .int .u8 0, .int .u8 0, .int .u8 0, .int .u8 0, .int .u8 0, .int .u8 0, .int .u8 0, .int .u8 0, .int .u8 0, .int .u8 0, .int .u8 0, .int .u8 0, .int .u8 0, .int .u8 0, .int .u8 0, .int .u8 0, .int .u8 0, .int .u8 0, .int .u8 0, .int .u8 0, .int .u8 0, .int .u8 0, .int .u8 0, .int .u8 0, .int .u8 0, .int .u8 0, .int .u8 0, .int .u8 0, .int .u8 0, .int .u8 0, .int .u8 0, .int .u8 0, .int .u8 0, .int .u8 0, .int .u8 0, .int .u8 0, .int .u8 0, .int .u8 0, .int .u8 0, .int .u8 0, .int .u8 0, .int .u8 0]⟩),
  (282, ⟨.fn, 1, 8, [.nilFunc]⟩),
  (283, ⟨.fn, 1, 8, [.nilFunc]⟩),
  (284, ⟨.fn, 1, 8, [.nilFunc]⟩),
  (286, ⟨.fn, 1, 8, [.nilFunc]⟩),
  (287, ⟨.fn, 1, 8, [.nilFunc]⟩),
  (288, ⟨.fn, 1, 8, [.nilFunc]⟩),
  (289, ⟨.fn, 1, 8, [.nilFunc]⟩),
  (291, ⟨.fn, 1, 8, [.nilFunc]⟩),
  (292, ⟨.arr 32 5, 32, 32, [.int .u8 0, .int .u8 0, .int .u8 0, .int .u8 0, .int .u8 0, .int .u8 0, .int .u8 0, .int .u8 0, .int .u8 0, .int .u8 0, .int .u8 0, .int .u8 0, .int .u8 0, .int .u8 0, .int .u8 0, .int .u8 0, .int .u8 0, .int .u8 0, .int .u8 0, .int .u8 0, .int .u8 0, .int .u8 0, .int .u8 0, .int .u8 0, .int .u8 0, .int .u8 0, .int .u8 0, .int .u8 0, .int .u8 0, .int .u8 0, .int .u8 0, .int .u8 0]⟩),
  (293, ⟨.arr 64 5, 64, 64, [.int .u8 0, .int .u8 0, .int .u8 0, .int .u8 0, .int .u8 0, .int .u8 0, .int .u8 0, .int .u8 0, .int .u8 0, .int .u8 0, .int .u8 0, .int .u8 0, .int .u8 0, .int .u8 0, .int .u8 0, .int .u8 0, .int .u8 0, .int .u8 0, .int .u8 0, .int .u8 0, .int .u8 0, .int .u8 0, .int .u8 0, .int .u8 0, .int .u8 0, .int .u8 0, .int .u8 0, .int .u8 0, .int .u8 0, .int .u8 0, .int .u8 0, .int .u8 0, .int .u8 0, .int .u8 0, .int .u8 0, .int .u8 0, .int .u8 0, .int .u8 0, .int .u8 0, .int .u8 0, .int .u8 0, .int .u8 0, .int .u8 0, .int .u8 0, .int .u8 0, .int .u8 0, .int .u8 0, .int .u8 0, .int .u8 0, .int .u8 0, .int .u8 0, .int .u8 0, .int .u8 0, .int .u8 0, .int .u8 0, .int .u8 0, .int .u8 0, .int .u8 0, .int .u8 0, .int .u8 0, .int .u8 0, .int .u8 0, .int .u8 0, .int .u8 0]⟩),
  (296, ⟨.arr 0 16, 0, 0, []⟩),
  (299, ⟨.fn, 1, 8, [.nilFunc]⟩),
  (300, ⟨.int .u8, 1, 1, [.int .u8 0]⟩),
  (301, ⟨.int .u8, 1, 1, [.int .u8 0]⟩),
  (302, ⟨.fn, 1, 8, [.nilFunc]⟩),
  (303, ⟨.int .i32, 1, 4, [.int .i32 0]⟩),
  (304, ⟨.int .i32, 1, 4, [.int .i32 0]⟩)]
def T : Tbl := tblOf tblL
theorem T_ok : TblOk Tryz.prog T := tblOk_of (by kernel_rfl)
theorem mixed : Tryz.prog.follows .mixedOrders = true := by kernel_rfl
theorem T_3 : T 3 = some ⟨.int .i64, 1, 8, [.int .i64 0]⟩ := by kernel_rfl
theorem T_4 : T 4 = some ⟨.bool, 1, 1, [.bool false]⟩ := by kernel_rfl
theorem T_9 : T 9 = some ⟨.str, 1, 16, [.string .empty]⟩ := by kernel_rfl
theorem T_22 : T 22 = some ⟨.slice 9, 1, 24, [.slice none 0 0]⟩ := by kernel_rfl
theorem T_23 : T 23 = some ⟨.slice 78, 1, 24, [.slice none 0 0]⟩ := by kernel_rfl
theorem T_24 : T 24 = some ⟨.slice 81, 1, 24, [.slice none 0 0]⟩ := by kernel_rfl
theorem T_25 : T 25 = some ⟨.slice 72, 1, 24, [.slice none 0 0]⟩ := by kernel_rfl
theorem T_27 : T 27 = some ⟨.struct [(0, 9), (1, 22), (2, 23), (3, 24), (4, 25)], 5, 112, [.string .empty, .slice none 0 0, .slice none 0 0, .slice none 0 0, .slice none 0 0]⟩ := by kernel_rfl
theorem T_38 : T 38 = some ⟨.slice 55, 1, 24, [.slice none 0 0]⟩ := by kernel_rfl
theorem T_44 : T 44 = some ⟨.struct [(0, 4), (1, 4), (2, 3), (3, 3), (4, 3), (5, 3)], 6, 40, [.bool false, .bool false, .int .i64 0, .int .i64 0, .int .i64 0, .int .i64 0]⟩ := by kernel_rfl
theorem T_45 : T 45 = some ⟨.arr 3 44, 18, 120, [.bool false, .bool false, .int .i64 0, .int .i64 0, .int .i64 0, .int .i64 0, .bool false, .bool false, .int .i64 0, .int .i64 0, .int .i64 0, .int .i64 0, .bool false, .bool false, .int .i64 0, .int .i64 0, .int .i64 0, .int .i64 0]⟩ := by kernel_rfl
theorem T_47 : T 47 = some ⟨.struct [(0, 4), (1, 3), (2, 3)], 3, 24, [.bool false, .int .i64 0, .int .i64 0]⟩ := by kernel_rfl
theorem T_49 : T 49 = some ⟨.struct [(0, 4), (1, 3), (2, 3)], 3, 24, [.bool false, .int .i64 0, .int .i64 0]⟩ := by kernel_rfl
theorem T_50 : T 50 = some ⟨.slice 163, 1, 24, [.slice none 0 0]⟩ := by kernel_rfl
theorem T_51 : T 51 = some ⟨.slice 161, 1, 24, [.slice none 0 0]⟩ := by kernel_rfl
theorem T_52 : T 52 = some ⟨.slice 171, 1, 24, [.slice none 0 0]⟩ := by kernel_rfl
theorem T_53 : T 53 = some ⟨.slice 174, 1, 24, [.slice none 0 0]⟩ := by kernel_rfl
theorem T_55 : T 55 = some ⟨.struct [(0, 9), (1, 3), (2, 3), (3, 45), (21, 3), (22, 3), (23, 3), (24, 3), (25, 3), (26, 3), (27, 47), (30, 49), (33, 47), (36, 3), (37, 3), (38, 3), (39, 47), (42, 47), (45, 3), (46, 3), (47, 3), (48, 3), (49, 50), (50, 51), (51, 52), (52, 53)], 53, 472, [.string .empty, .int .i64 0, .int .i64 0, .bool false, .bool false, .int .i64 0, .int .i64 0, .int .i64 0, .int .i64 0, .bool false, .bool false, .int .i64 0, .int .i64 0, .int .i64 0, .int .i64 0, .bool false, .bool false, .int .i64 0, .int .i64 0, .int .i64 0, .int .i64 0, .int .i64 0, .int .i64 0, .int .i64 0, .int .i64 0, .int .i64 0, .int .i64 0, .bool false, .int .i64 0, .int .i64 0, .bool false, .int .i64 0, .int .i64 0, .bool false, .int .i64 0, .int .i64 0, .int .i64 0, .int .i64 0, .int .i64 0, .bool false, .int .i64 0, .int .i64 0, .bool false, .int .i64 0, .int .i64 0, .int .i64 0, .int .i64 0, .int .i64 0, .int .i64 0, .slice none 0 0, .slice none 0 0, .slice none 0 0, .slice none 0 0]⟩ := by kernel_rfl
theorem T_69 : T 69 = some ⟨.struct [(0, 3), (1, 3)], 2, 16, [.int .i64 0, .int .i64 0]⟩ := by kernel_rfl
theorem T_70 : T 70 = some ⟨.slice 153, 1, 24, [.slice none 0 0]⟩ := by kernel_rfl
theorem T_72 : T 72 = some ⟨.struct [(0, 9), (1, 3), (2, 3), (3, 3), (4, 69), (6, 70), (7, 4), (8, 3), (9, 3), (10, 3), (11, 3)], 12, 120, [.string .empty, .int .i64 0, .int .i64 0, .int .i64 0, .int .i64 0, .int .i64 0, .slice none 0 0, .bool false, .int .i64 0, .int .i64 0, .int .i64 0, .int .i64 0]⟩ := by kernel_rfl
theorem T_78 : T 78 = some ⟨.struct [(0, 9), (1, 69), (3, 69)], 5, 48, [.string .empty, .int .i64 0, .int .i64 0, .int .i64 0, .int .i64 0]⟩ := by kernel_rfl
theorem T_81 : T 81 = some ⟨.struct [(0, 9), (1, 3), (2, 69), (4, 69)], 6, 56, [.string .empty, .int .i64 0, .int .i64 0, .int .i64 0, .int .i64 0, .int .i64 0]⟩ := by kernel_rfl
theorem T_153 : T 153 = some ⟨.struct [(0, 3), (1, 3)], 2, 16, [.int .i64 0, .int .i64 0]⟩ := by kernel_rfl
theorem T_161 : T 161 = some ⟨.struct [(0, 9), (1, 22)], 2, 40, [.string .empty, .slice none 0 0]⟩ := by kernel_rfl
theorem T_163 : T 163 = some ⟨.struct [(0, 9), (1, 9)], 2, 32, [.string .empty, .string .empty]⟩ := by kernel_rfl
theorem T_171 : T 171 = some ⟨.struct [(0, 9), (1, 3), (2, 3)], 3, 32, [.string .empty, .int .i64 0, .int .i64 0]⟩ := by kernel_rfl
theorem T_174 : T 174 = some ⟨.struct [(0, 9), (1, 9), (2, 9), (3, 9)], 4, 64, [.string .empty, .string .empty, .string .empty, .string .empty]⟩ := by kernel_rfl
end Go.Proofs.YtfleadelfklenaaGreatDoor
end
section
namespace Go.Proofs.YtfleadelfklenaaGreatDoor
open Go.VD
set_option linter.unusedVariables false
set_option linter.unusedSimpArgs false
set_option maxRecDepth 100000
end Go.Proofs.YtfleadelfklenaaGreatDoor
end
section
namespace Go.Proofs.YtfleadelfklenaaGreatDoor
open Go.VD Go.RowKit
set_option linter.unusedVariables false
set_option linter.unusedSimpArgs false
set_option maxHeartbeats 4000000 in
set_option maxRecDepth 100000 in
theorem clone_empty (w : World) : Calls Tryz.prog 167 #[.string ⟨#[]⟩] w fun e w' => e = .returned (.string ⟨#[]⟩) ∧ Below w.heap.size w w' := by
  go_enter Tryz.func167, Tryz.ntmps167
  go_wp2
  go_ret
  exact ⟨rfl, Below.refl _ _⟩
theorem bytes_ne {s : ByteArray} (h : s.size ≠ 0) : s.data.toList ≠ [] := fun e => h (by rw [Lib.size_eq, e]; rfl)
set_option maxHeartbeats 4000000 in
set_option maxRecDepth 100000 in
theorem clone_full (s : ByteArray) (h0 : s.size ≠ 0) (hs : s.size ≤ 1000000) (w : World) : Calls Tryz.prog 167 #[.string s] w fun e w' => e = .returned (.string s) ∧ Below w.heap.size w w' := by
  have hi5 : (Tryz.prog.info? 5).map (fun i => (i.zero, i.size, i.bytes)) = some (some (Value.int .u8 0), 1, 1) := by kernel_rfl
  obtain ⟨i0, hi, hz0, hz1, hz2⟩ : ∃ i0, Tryz.prog.info? 5 = some i0 ∧ i0.zero = some (.int .u8 0) ∧ i0.size = 1 ∧ i0.bytes = 1 := by
    cases h : Tryz.prog.info? 5 with
    | none => rw [h] at hi5; cases hi5
    | some i =>
      rw [h] at hi5
      simp only [Option.map_some, Option.some.injEq, Prod.mk.injEq] at hi5
      exact ⟨i, rfl, hi5.1, hi5.2.1, hi5.2.2⟩
  have hsl : Tryz.prog.underlying 192 = some (.slice 5) := by kernel_rfl
  have hpt : Tryz.prog.underlying 244 = some (.pointer 5) := by kernel_rfl
  have hone : (Tryz.prog.info? 5).map (·.size) = some 1 := by rw [hi]; simp [hz1]
  have hco : Tryz.prog.cellsOf 5 = 1 := by simp [Program.cellsOf, hi, hz1]
  have hz : ∃ M : Array Value, M.size = s.size ∧ ∀ W : World, (Instr.makeSlice 192 (.int .i64 (s.size : Int)) (.int .i64 (s.size : Int))).run Tryz.prog W = .ok (.slice (some ⟨W.heap.size, 0, none⟩) s.size s.size) (W.alloc (.cells M 5)) := by
    refine ⟨madeCells (Value.int .u8 0).cells (((s.size : Nat) : Int).toNat * i0.size), by rw [size_madeCells, hz1]; simp, fun W => ?_⟩
    have h := run_make (P := Tryz.prog) (w := W) 192 5 i0 (.int .u8 0) hsl hi hz0 .i64 .i64 (s.size : Int) (s.size : Int) (by omega) (by omega) (by rw [hz2]; omega) (by omega)
    simpa using h
  obtain ⟨M, hM, hmk⟩ := hz
  have hcp := Lib.run_copy_row_string (P := Tryz.prog) (w.alloc (.cells M 5)) 192 9 3 5 w.heap.size 0 s.size s.size s M 5 hsl hone (heap_alloc_new w _) (Nat.le_refl _) (by omega)
  have hY : ∃ Y : Array Value, Y.toList = Lib.byteCells s.data.toList ∧ (M.toList.take 0 ++ Lib.byteCells s.data.toList ++ M.toList.drop (0 + s.size)).toArray = Y := by
    refine ⟨_, ?_, rfl⟩
    rw [List.toList_toArray, List.take_zero, List.nil_append, List.drop_of_length_le (by rw [Array.length_toList]; omega), List.append_nil]
  obtain ⟨Y, hYl, hYe⟩ := hY
  rw [hYe] at hcp
  have hYs : Y.size = s.size := by rw [← Array.length_toList, hYl, Lib.byteCells_length, ← Lib.size_eq]
  have hrow : ((w.alloc (.cells M 5)).setRow w.heap.size Y).heap[w.heap.size]? = some (.cells Y 5 (0, 0)) := setRow_heap _ _ M _ 5 (0, 0) (heap_alloc_new w _)
  have hus := Lib.run_unsafeString_row (P := Tryz.prog) (w := (w.alloc (.cells M 5)).setRow w.heap.size Y) 244 3 9 5 hpt hco w.heap.size Y.size (by unfold World.shape?; rw [hrow]) s.data.toList (bytes_ne h0) (by rw [← Lib.size_eq]; omega) (by rw [← Lib.size_eq]; omega)
    (fun j x hx => Lib.cells_of_row hrow Y.size j _ (by rw [List.take_of_length_le (by rw [Array.length_toList]; exact Nat.le_refl _), hYl]; simp [Lib.byteCells, hx]))
  rw [← Lib.size_eq] at hus
  clear hYe hM
  go_enter Tryz.func167, Tryz.ntmps167
  go_wp2
  go_ret
  have b1 : Below w.heap.size w (w.alloc (.cells M 5)) := (Below.refl _ w).alloc (Nat.le_refl _) _
  have b2 : Below w.heap.size (w.alloc (.cells M 5)) ((w.alloc (.cells M 5)).setRow w.heap.size Y) := ⟨rfl, rfl, rfl, by simp, fun k hk => setRow_other _ _ _ _ (by omega)⟩
  exact ⟨rfl, Lib.below_freeze (b1.trans b2) (p := ⟨w.heap.size, 0, none⟩) (Nat.le_refl _) _⟩
theorem lclone_pure (s : ByteArray) (hpre : s.size ≤ 1000000) : PureJ Tryz.prog 167 [.v (.string s)] (.v (.string s)) := by
  refine ⟨⟨_, Tryz.func167, by kernel_rfl, by kernel_rfl⟩, by simp [NamelessL, Nameless], by simp [Nameless], fun S w vals hsub hG hv => ?_⟩
  have hvals : vals = [.string s] := by
    simp only [RdT, Rd] at hv
    obtain ⟨u, r, rfl, rfl, rfl⟩ := hv
    rfl
  subst hvals
  have h : Calls Tryz.prog 167 #[.string s] w fun e w' => e = .returned (.string s) ∧ Below w.heap.size w w' := by
    by_cases h0 : s.size = 0
    · have hs : s = ⟨#[]⟩ := by
        apply ByteArray.ext
        exact Array.eq_empty_of_size_eq_zero h0
      rw [hs]
      exact clone_empty w
    · exact clone_full s h0 hpre w
  exact h.mono fun e w' ⟨he, hb⟩ => ⟨.string s, S, he, ⟨hb.size, fun k hk => hb.block k hk, hb.os, hb.tape, hb.output⟩, fun _ h => h, fun _ h => .inl h, fun k hk => Nat.lt_of_lt_of_le (hsub k hk) hb.size, by simp only [Rd]⟩
end Go.Proofs.YtfleadelfklenaaGreatDoor
end
section
namespace Go.VD
set_option linter.unusedVariables false
set_option linter.unusedSimpArgs false
section
variable {P : Program} {nt : Nat} {ops : Array Oper}
structure CheckedA (ops : Array Oper) (ts : Nat → Tch) (alt : Nat → Option Nat) : Prop where
  back : ∀ j o, ops[j]? = some o → ∀ e ∈ directL o, e < j
  slot : ∀ k j ok oj, k < j → ops[k]? = some ok → ops[j]? = some oj → slotClash ops ok oj = true → k ∈ directL oj
  dst : ∀ k j t, gslot ops k = some t → gslot ops j = some t → k = j
  heap : ∀ k j, k < j → j < ops.size → clash (ts k) (ts j) = true → alt j = some k ∨ ∀ listed, Closed ops listed → (∀ o, ops[j]? = some o → ∀ e ∈ directL o, listed.getD e false = true) → listed.getD k false = true
  alt : ∀ j k0, alt j = some k0 → k0 < j ∧ ∃ b, ts j = .rd b ∧ ∀ k, k0 < k → k < j → ¬ Wt (ts k) b
end
section
variable {P : Program} {T : Tbl} (hT : TblOk P T) {nt N : Nat} {ops : Array Oper} {call : CallO} {lp : Nat → Option LoopO} {al : Nat → Option (Nat × Nat)}
include hT
omit hT
include hT
end
end Go.VD
end
section
namespace Go.Proofs.YtfleadelfklenaaGreatDoor
open Go.VD
set_option linter.unusedVariables false
set_option linter.unusedSimpArgs false
set_option maxRecDepth 100000
def bt (s : ByteArray) (i : Nat) : Nat := (s.data.toList.getD i 0).toNat
theorem get_bt (s : ByteArray) (i : Nat) : (s.get! i).toNat = bt s i := by
  have : s.get! i = s.data.toList.getD i 0 := by
    obtain ⟨⟨l⟩⟩ := s
    simp only [ByteArray.get!, List.getD_eq_getElem?_getD]
    rw [getElem!_def]
    simp
    rfl
  rw [this]; rfl
theorem dec_ascii {s : ByteArray} {i : Nat} (h : bt s i < 128) : Utf8.decode s i = (bt s i, 1) := by
  unfold Utf8.decode
  simp only [Nat.add_zero, get_bt]
  rw [if_pos h]
theorem dec_high {s : ByteArray} {i : Nat} (h : 128 ≤ bt s i) (h2 : bt s i < 256) : 128 ≤ (Utf8.decode s i).1 ∧ (Utf8.decode s i).1 < 2147483648 := by
  unfold Utf8.decode
  simp only [Nat.add_zero, get_bt, Utf8.runeError]
  rw [if_neg (by omega)]
  split
  · split <;> (simp only; omega)
  · split
    · split
      · rename_i hc
        simp only [Bool.and_eq_true, decide_eq_true_eq] at hc
        simp only; omega
      · simp only; omega
    · split
      · split
        · rename_i hc
          simp only [Bool.and_eq_true, decide_eq_true_eq] at hc
          simp only; omega
        · simp only; omega
      · simp only; omega
theorem bt_lt (s : ByteArray) (i : Nat) : bt s i < 256 := (s.data.toList.getD i 0).toNat_lt
theorem dec_pred {p : Nat → Bool} (hp : ∀ n, p n = true → n < 128) (s : ByteArray) (x : Nat) : p (Utf8.decode s x).1 = p (bt s x) ∧ (p (bt s x) = true → (Utf8.decode s x).2 = 1) := by
  by_cases h : bt s x < 128
  · rw [dec_ascii h]; exact ⟨rfl, fun _ => rfl⟩
  · have hh := (dec_high (show 128 ≤ bt s x by omega) (bt_lt s x)).1
    have e1 : p (Utf8.decode s x).1 = false := by
      cases hq : p (Utf8.decode s x).1 with
      | false => rfl
      | true => have := hp _ hq; omega
    have e2 : p (bt s x) = false := by
      cases hq : p (bt s x) with
      | false => rfl
      | true => have := hp _ hq; omega
    rw [e1, e2]
    exact ⟨rfl, fun h => by cases h⟩
def digB (n : Nat) : Bool := decide (48 ≤ n) && decide (n ≤ 57)
theorem size_list (s : ByteArray) : s.size = s.data.toList.length := by rw [Array.length_toList]; rfl
end Go.Proofs.YtfleadelfklenaaGreatDoor
end
section
namespace Go.Proofs.YtfleadelfklenaaGreatDoor
open Go.VD
set_option linter.unusedVariables false
set_option linter.unusedSimpArgs false
set_option maxRecDepth 100000
structure Imp where
  r : Int
  x : Int
  deriving DecidableEq
structure Lin where
  n : ByteArray
  z1 : Imp
  z0 : Imp
structure Src where
  n : ByteArray
  emf : Int
  z1 : Imp
  z0 : Imp
structure Lnk where
  bus : Int
  pos : Int
  deriving DecidableEq
structure Bay where
  n : ByteArray
  kind : Int
  of : Int
  end_ : Int
  z : Imp
  ls : List Lnk
  cl : Bool
  ct : Int
  vt : Int
  sat : Int
  tr : Int
structure Stn where
  n : ByteArray
  bu : List ByteArray
  li : List Lin
  so : List Src
  ba : List Bay
instance : Inhabited Imp := ⟨⟨0, 0⟩⟩
instance : Inhabited Lin := ⟨⟨.empty, default, default⟩⟩
instance : Inhabited Src := ⟨⟨.empty, 0, default, default⟩⟩
instance : Inhabited Lnk := ⟨⟨0, 0⟩⟩
instance : Inhabited Bay := ⟨⟨.empty, 0, 0, 0, default, [], false, 0, 0, 0, 0⟩⟩
instance : Inhabited Stn := ⟨⟨.empty, [], [], [], []⟩⟩
abbrev d_i (n : Int) : D := .v (.int .i64 n)
abbrev d_s (s : ByteArray) : D := .v (.string s)
def busesD (l : List ByteArray) : List D := l.map d_s
def linD (x : Lin) : List D := [d_s x.n, d_i x.z1.r, d_i x.z1.x, d_i x.z0.r, d_i x.z0.x]
def linesD : List Lin → List D
  | [] => []
  | x :: r => linD x ++ linesD r
def srcD' (x : Src) : List D := [d_s x.n, d_i x.emf, d_i x.z1.r, d_i x.z1.x, d_i x.z0.r, d_i x.z0.x]
def srcsD : List Src → List D
  | [] => []
  | x :: r => srcD' x ++ srcsD r
def lnksD : List Lnk → List D
  | [] => []
  | x :: r => d_i x.bus :: d_i x.pos :: lnksD r
def bayD (b : Bay) : List D := [d_s b.n, d_i b.kind, d_i b.of, d_i b.end_, d_i b.z.r, d_i b.z.x, .ro b.ls.length (lnksD b.ls), .v (.bool b.cl), d_i b.ct, d_i b.vt, d_i b.sat, d_i b.tr]
def baysD : List Bay → List D
  | [] => []
  | x :: r => bayD x ++ baysD r
def stnD (s : Stn) : List D := [d_s s.n, .ro s.bu.length (busesD s.bu), .ro s.li.length (linesD s.li), .ro s.so.length (srcsD s.so), .ro s.ba.length (baysD s.ba)]
theorem busesD_length (l : List ByteArray) : (busesD l).length = l.length := by simp [busesD]
theorem linesD_length : ∀ l : List Lin, (linesD l).length = 5 * l.length
  | [] => rfl
  | x :: r => by simp only [linesD, linD, List.length_append, List.length_cons, List.length_nil, linesD_length r]; omega
theorem srcsD_length : ∀ l : List Src, (srcsD l).length = 6 * l.length
  | [] => rfl
  | x :: r => by simp only [srcsD, srcD', List.length_append, List.length_cons, List.length_nil, srcsD_length r]; omega
theorem lnksD_length : ∀ l : List Lnk, (lnksD l).length = 2 * l.length
  | [] => rfl
  | x :: r => by simp only [lnksD, List.length_cons, lnksD_length r]; omega
theorem baysD_length : ∀ l : List Bay, (baysD l).length = 12 * l.length
  | [] => rfl
  | x :: r => by simp only [baysD, bayD, List.length_append, List.length_cons, List.length_nil, baysD_length r]; omega
theorem busesD_get (l : List ByteArray) (i : Nat) (h : i < l.length) : (busesD l).getD i default = d_s (l.getD i default) := by
  simp [busesD, h]
theorem linesD_get : ∀ (l : List Lin) (i : Nat), i < l.length → (linesD l).getD (i * 5) default = d_s (l.getD i default).n ∧ (linesD l).getD (i * 5 + 1) default = d_i (l.getD i default).z1.r ∧ (linesD l).getD (i * 5 + 2) default = d_i (l.getD i default).z1.x ∧
    (linesD l).getD (i * 5 + 3) default = d_i (l.getD i default).z0.r ∧ (linesD l).getD (i * 5 + 4) default = d_i (l.getD i default).z0.x
  | [], i, h => by simp at h
  | x :: r, 0, h => by simp [linesD, linD]
  | x :: r, i + 1, h => by
    have := linesD_get r i (by simpa using h)
    rw [show (i + 1) * 5 = i * 5 + 1 + 1 + 1 + 1 + 1 by omega]
    simp only [linesD, linD, List.cons_append, List.nil_append, List.getD_cons_succ]
    exact this
theorem srcsD_get : ∀ (l : List Src) (i : Nat), i < l.length → (srcsD l).getD (i * 6) default = d_s (l.getD i default).n ∧ (srcsD l).getD (i * 6 + 1) default = d_i (l.getD i default).emf ∧ (srcsD l).getD (i * 6 + 2) default = d_i (l.getD i default).z1.r ∧
    (srcsD l).getD (i * 6 + 3) default = d_i (l.getD i default).z1.x ∧ (srcsD l).getD (i * 6 + 4) default = d_i (l.getD i default).z0.r ∧ (srcsD l).getD (i * 6 + 5) default = d_i (l.getD i default).z0.x
  | [], i, h => by simp at h
  | x :: r, 0, h => by simp [srcsD, srcD']
  | x :: r, i + 1, h => by
    have := srcsD_get r i (by simpa using h)
    rw [show (i + 1) * 6 = i * 6 + 1 + 1 + 1 + 1 + 1 + 1 by omega]
    simp only [srcsD, srcD', List.cons_append, List.nil_append, List.getD_cons_succ]
    exact this
theorem lnksD_get : ∀ (l : List Lnk) (i : Nat), i < l.length → (lnksD l).getD (i * 2) default = d_i (l.getD i default).bus ∧ (lnksD l).getD (i * 2 + 1) default = d_i (l.getD i default).pos
  | [], i, h => by simp at h
  | x :: r, 0, h => by simp [lnksD]
  | x :: r, i + 1, h => by
    have := lnksD_get r i (by simpa using h)
    rw [show (i + 1) * 2 = i * 2 + 1 + 1 by omega]
    simp only [lnksD, List.getD_cons_succ]
    exact this
theorem baysD_get : ∀ (l : List Bay) (i : Nat), i < l.length → (baysD l).getD (i * 12) default = d_s (l.getD i default).n ∧ (baysD l).getD (i * 12 + 1) default = d_i (l.getD i default).kind ∧ (baysD l).getD (i * 12 + 2) default = d_i (l.getD i default).of ∧
    (baysD l).getD (i * 12 + 3) default = d_i (l.getD i default).end_ ∧ (baysD l).getD (i * 12 + 4) default = d_i (l.getD i default).z.r ∧ (baysD l).getD (i * 12 + 5) default = d_i (l.getD i default).z.x ∧
    (baysD l).getD (i * 12 + 6) default = .ro (l.getD i default).ls.length (lnksD (l.getD i default).ls) ∧ (baysD l).getD (i * 12 + 7) default = .v (.bool (l.getD i default).cl) ∧ (baysD l).getD (i * 12 + 8) default = d_i (l.getD i default).ct ∧
    (baysD l).getD (i * 12 + 9) default = d_i (l.getD i default).vt ∧ (baysD l).getD (i * 12 + 10) default = d_i (l.getD i default).sat ∧ (baysD l).getD (i * 12 + 11) default = d_i (l.getD i default).tr
  | [], i, h => by simp at h
  | x :: r, 0, h => by simp [baysD, bayD]
  | x :: r, i + 1, h => by
    have := baysD_get r i (by simpa using h)
    rw [show (i + 1) * 12 = i * 12 + 1 + 1 + 1 + 1 + 1 + 1 + 1 + 1 + 1 + 1 + 1 + 1 by omega]
    simp only [baysD, bayD, List.cons_append, List.nil_append, List.getD_cons_succ]
    exact this
theorem busesD_nl : ∀ l : List ByteArray, NamelessL (busesD l)
  | [] => by simp [busesD, NamelessL]
  | x :: r => by simp only [busesD, List.map_cons, NamelessL, Nameless, true_and]; exact busesD_nl r
theorem linesD_nl : ∀ l : List Lin, NamelessL (linesD l)
  | [] => by simp [linesD, NamelessL]
  | x :: r => by rw [linesD]; exact NamelessL.append (by simp [linD, NamelessL, Nameless]) (linesD_nl r)
theorem srcsD_nl : ∀ l : List Src, NamelessL (srcsD l)
  | [] => by simp [srcsD, NamelessL]
  | x :: r => by rw [srcsD]; exact NamelessL.append (by simp [srcD', NamelessL, Nameless]) (srcsD_nl r)
theorem lnksD_nl : ∀ l : List Lnk, NamelessL (lnksD l)
  | [] => by simp [lnksD, NamelessL]
  | x :: r => by simp only [lnksD, NamelessL, Nameless, true_and]; exact lnksD_nl r
theorem bayD_nl (b : Bay) : NamelessL (bayD b) := by simp only [bayD, NamelessL, Nameless, true_and, and_true]; exact lnksD_nl _
theorem baysD_nl : ∀ l : List Bay, NamelessL (baysD l)
  | [] => by simp [baysD, NamelessL]
  | x :: r => by rw [baysD]; exact NamelessL.append (bayD_nl x) (baysD_nl r)
theorem stnD_nl (s : Stn) : NamelessL (stnD s) := by
  simp only [stnD, NamelessL, Nameless, true_and, and_true]; exact ⟨busesD_nl _, linesD_nl _, srcsD_nl _, baysD_nl _⟩
def unLnk : List D → List Lnk
  | .v (.int _ a) :: .v (.int _ b) :: r => ⟨a, b⟩ :: unLnk r
  | _ => []
theorem unLnk_D : ∀ l : List Lnk, unLnk (lnksD l) = l
  | [] => rfl
  | x :: r => by simp only [lnksD, unLnk, unLnk_D r]
def unBus : List D → List ByteArray
  | .v (.string s) :: r => s :: unBus r
  | _ => []
theorem unBus_D : ∀ l : List ByteArray, unBus (busesD l) = l
  | [] => rfl
  | x :: r => by have := unBus_D r; simp only [busesD] at this; simp only [busesD, List.map_cons, unBus, this]
def unLin : List D → List Lin
  | .v (.string s) :: .v (.int _ a) :: .v (.int _ b) :: .v (.int _ c) :: .v (.int _ d) :: r => ⟨s, ⟨a, b⟩, ⟨c, d⟩⟩ :: unLin r
  | _ => []
theorem unLin_D : ∀ l : List Lin, unLin (linesD l) = l
  | [] => rfl
  | x :: r => by simp only [linesD, linD, List.cons_append, List.nil_append, unLin, unLin_D r]
def unSrc : List D → List Src
  | .v (.string s) :: .v (.int _ e) :: .v (.int _ a) :: .v (.int _ b) :: .v (.int _ c) :: .v (.int _ d) :: r => ⟨s, e, ⟨a, b⟩, ⟨c, d⟩⟩ :: unSrc r
  | _ => []
theorem unSrc_D : ∀ l : List Src, unSrc (srcsD l) = l
  | [] => rfl
  | x :: r => by simp only [srcsD, srcD', List.cons_append, List.nil_append, unSrc, unSrc_D r]
def unBay : List D → List Bay
  | .v (.string s) :: .v (.int _ k) :: .v (.int _ o) :: .v (.int _ e) :: .v (.int _ a) :: .v (.int _ b) :: .ro _ ls :: .v (.bool cl) :: .v (.int _ ct) :: .v (.int _ vt) :: .v (.int _ sa) :: .v (.int _ tr) :: r => ⟨s, k, o, e, ⟨a, b⟩, unLnk ls, cl, ct, vt, sa, tr⟩ :: unBay r
  | _ => []
theorem unBay_D : ∀ l : List Bay, unBay (baysD l) = l
  | [] => rfl
  | x :: r => by simp only [baysD, bayD, List.cons_append, List.nil_append, unBay, unLnk_D, unBay_D r]
def I64 (n : Int) : Prop := -9223372036854775808 ≤ n ∧ n < 9223372036854775808
def okImp (z : Imp) : Prop := I64 z.r ∧ I64 z.x
def okLin (x : Lin) : Prop := x.n.size ≤ maxLen ∧ okImp x.z1 ∧ okImp x.z0
def okSrc (x : Src) : Prop := x.n.size ≤ maxLen ∧ I64 x.emf ∧ okImp x.z1 ∧ okImp x.z0
def okLnk (x : Lnk) : Prop := I64 x.bus ∧ I64 x.pos
def okBay (b : Bay) : Prop := b.n.size ≤ maxLen ∧ (I64 b.kind ∧ I64 b.of ∧ I64 b.end_) ∧ okImp b.z ∧ (b.ls.length ≤ maxLen ∧ ∀ x ∈ b.ls, okLnk x) ∧ I64 b.ct ∧ I64 b.vt ∧ I64 b.sat ∧ I64 b.tr
def okStn (s : Stn) : Prop := s.n.size ≤ maxLen ∧ (s.bu.length ≤ maxLen ∧ ∀ x ∈ s.bu, x.size ≤ maxLen) ∧ (s.li.length ≤ maxLen ∧ ∀ x ∈ s.li, okLin x) ∧ (s.so.length ≤ maxLen ∧ ∀ x ∈ s.so, okSrc x) ∧ s.ba.length ≤ maxLen ∧ ∀ x ∈ s.ba, okBay x
theorem getD_mem {α : Type} [Inhabited α] {l : List α} {i : Nat} (h : i < l.length) : l.getD i default ∈ l := by
  rw [List.getD_eq_getElem?_getD, List.getElem?_eq_getElem h]; exact List.getElem_mem h
theorem wf_I64 {n : Int} (h : (Lit.int .i64 n).wf = true) : I64 n := wf_i64 h
theorem imp_inv {cs : List D} (h : TC T 69 cs) : ∃ z : Imp, cs = [d_i z.r, d_i z.x] ∧ okImp z := by
  obtain ⟨p1, r1, rfl, g1, p2, r2, rfl, g2, rfl⟩ := h.fields T_69
  obtain ⟨a, rfl, ha⟩ := g1.int_inv T_3
  obtain ⟨b, rfl, hb⟩ := g2.int_inv T_3
  exact ⟨⟨a, b⟩, rfl, wf_I64 ha, wf_I64 hb⟩
theorem list_inv {α : Type} {f : α → List D} {ok : α → Prop} {F : List α → List D} (h0 : F [] = []) (h1 : ∀ x r, F (x :: r) = f x ++ F r) {t : TypeId} (inv : ∀ c, TC T t c → ∃ x, c = f x ∧ ok x) :
    ∀ chunks : List (List D), (∀ c ∈ chunks, TC T t c) → ∃ l : List α, chunks.length = l.length ∧ chunks.flatten = F l ∧ ∀ x ∈ l, ok x
  | [], _ => ⟨[], rfl, by simp [h0], by simp⟩
  | c :: r, hc => by
    obtain ⟨l, g1, g2, g3⟩ := list_inv h0 h1 inv r fun c h => hc c (by simp [h])
    obtain ⟨x, rfl, hx⟩ := inv c (hc c (by simp))
    refine ⟨x :: l, by simp [g1], by rw [List.flatten_cons, g2, h1], fun y hy => ?_⟩
    rcases List.mem_cons.1 hy with rfl | hy
    · exact hx
    · exact g3 y hy
theorem lin_inv (c : List D) (h : TC T 78 c) : ∃ x, c = linD x ∧ okLin x := by
  obtain ⟨p1, r1, rfl, g1, p2, r2, rfl, g2, p3, r3, rfl, g3, rfl⟩ := h.fields T_78
  obtain ⟨s, rfl, hs⟩ := g1.str_inv T_9
  obtain ⟨z1, rfl, hz1⟩ := imp_inv g2
  obtain ⟨z0, rfl, hz0⟩ := imp_inv g3
  exact ⟨⟨s, z1, z0⟩, rfl, hs, hz1, hz0⟩
theorem src_inv (c : List D) (h : TC T 81 c) : ∃ x, c = srcD' x ∧ okSrc x := by
  obtain ⟨p1, r1, rfl, g1, p4, r4, rfl, g4, p2, r2, rfl, g2, p3, r3, rfl, g3, rfl⟩ := h.fields T_81
  obtain ⟨s, rfl, hs⟩ := g1.str_inv T_9
  obtain ⟨e, rfl, he⟩ := g4.int_inv T_3
  obtain ⟨z1, rfl, hz1⟩ := imp_inv g2
  obtain ⟨z0, rfl, hz0⟩ := imp_inv g3
  exact ⟨⟨s, e, z1, z0⟩, rfl, hs, wf_I64 he, hz1, hz0⟩
theorem lnk_inv (c : List D) (h : TC T 153 c) : ∃ x : Lnk, c = [d_i x.bus, d_i x.pos] ∧ okLnk x := by
  obtain ⟨p1, r1, rfl, g1, p2, r2, rfl, g2, rfl⟩ := h.fields T_153
  obtain ⟨a, rfl, ha⟩ := g1.int_inv T_3
  obtain ⟨b, rfl, hb⟩ := g2.int_inv T_3
  exact ⟨⟨a, b⟩, rfl, wf_I64 ha, wf_I64 hb⟩
theorem bay_inv (c : List D) (h : TC T 72 c) : ∃ x, c = bayD x ∧ okBay x := by
  obtain ⟨p1, r1, rfl, g1, p2, r2, rfl, g2, p3, r3, rfl, g3, p4, r4, rfl, g4, p5, r5, rfl, g5, p6, r6, rfl, g6, p7, r7, rfl, g7, p8, r8, rfl, g8, p9, r9, rfl, g9, pa, ra, rfl, ga, pb, rb, rfl, gb, rfl⟩ := h.fields T_72
  obtain ⟨s, rfl, hs⟩ := g1.str_inv T_9
  obtain ⟨k, rfl, hk⟩ := g2.int_inv T_3
  obtain ⟨o, rfl, ho⟩ := g3.int_inv T_3
  obtain ⟨e, rfl, he⟩ := g4.int_inv T_3
  obtain ⟨z, rfl, hz⟩ := imp_inv g5
  obtain ⟨chunks, rfl, hl, hc⟩ := g6.slice_inv T_70
  obtain ⟨ls, l1, l2, l3⟩ := list_inv (F := lnksD) (f := fun x : Lnk => [d_i x.bus, d_i x.pos]) (ok := okLnk) rfl (fun _ _ => rfl) lnk_inv chunks hc
  obtain ⟨cl, rfl⟩ := g7.bool_inv T_4
  obtain ⟨ct, rfl, h1⟩ := g8.int_inv T_3
  obtain ⟨vt, rfl, h2⟩ := g9.int_inv T_3
  obtain ⟨sa, rfl, h3⟩ := ga.int_inv T_3
  obtain ⟨tr, rfl, h4⟩ := gb.int_inv T_3
  refine ⟨⟨s, k, o, e, z, ls, cl, ct, vt, sa, tr⟩, by rw [l1, l2]; rfl, hs, ⟨wf_I64 hk, wf_I64 ho, wf_I64 he⟩, hz, ⟨by rw [← l1]; exact hl, l3⟩, wf_I64 h1, wf_I64 h2, wf_I64 h3, wf_I64 h4⟩
theorem stn_inv {cs : List D} (h : TFields T [(0, 9), (1, 22), (2, 23), (3, 24), (4, 25)] cs) : ∃ s : Stn, cs = stnD s ∧ okStn s := by
  obtain ⟨p1, r1, rfl, g1, p2, r2, rfl, g2, p3, r3, rfl, g3, p4, r4, rfl, g4, p5, r5, rfl, g5, rfl⟩ := h
  obtain ⟨n, rfl, hn⟩ := g1.str_inv T_9
  obtain ⟨c2, rfl, hl2, hc2⟩ := g2.slice_inv T_22
  obtain ⟨c3, rfl, hl3, hc3⟩ := g3.slice_inv T_23
  obtain ⟨c4, rfl, hl4, hc4⟩ := g4.slice_inv T_24
  obtain ⟨c5, rfl, hl5, hc5⟩ := g5.slice_inv T_25
  obtain ⟨bu, b1, b2, b3⟩ := list_inv (F := busesD) (f := fun x => [d_s x]) (ok := fun x : ByteArray => x.size ≤ maxLen) rfl (fun _ _ => rfl) (fun c h => by
    obtain ⟨s, rfl, hs⟩ := h.str_inv T_9; exact ⟨s, rfl, hs⟩) c2 hc2
  obtain ⟨li, l1, l2, l3⟩ := list_inv (F := linesD) rfl (fun _ _ => rfl) lin_inv c3 hc3
  obtain ⟨so, s1, s2, s3⟩ := list_inv (F := srcsD) rfl (fun _ _ => rfl) src_inv c4 hc4
  obtain ⟨ba, a1, a2, a3⟩ := list_inv (F := baysD) rfl (fun _ _ => rfl) bay_inv c5 hc5
  refine ⟨⟨n, bu, li, so, ba⟩, ?_, hn, ⟨by rw [← b1]; exact hl2, b3⟩, ⟨by rw [← l1]; exact hl3, l3⟩, ⟨by rw [← s1]; exact hl4, s3⟩, by rw [← a1]; exact hl5, a3⟩
  rw [b1, b2, l1, l2, s1, s2, a1, a2]; rfl
theorem targ_stn {d : D} (hd : ∃ ti cs, T 27 = some ti ∧ TC T 27 cs ∧ d = (if ti.td.isAgg then .agg cs else cs.headD default)) : ∃ s : Stn, d = .agg (stnD s) ∧ okStn s := by
  obtain ⟨cs, rfl, k⟩ := targ_struct T_27 hd
  obtain ⟨s, rfl, h⟩ := stn_inv k
  exact ⟨s, rfl, h⟩
end Go.Proofs.YtfleadelfklenaaGreatDoor
end
