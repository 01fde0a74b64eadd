import Derived.Test.YtglilbadldocoaaGreatDoorHlzz
import Derived.Test.YtglilbadldocoaaGreatDoorChecked
import Derived.Test.YtglilbadldocoaaGreatDoorWf1zz
namespace Go.Proofs.YtglilbadldocoaaGreatDoor
open Go Go.Ev Go.Sy
set_option maxRecDepth 100000
def zu (k : IntKind) (n : Nat) (l : List Value) : List Value := Nat.rec l (fun _ ih => Value.int k 0 :: ih) n
def T : List TE := [⟨3, 1, .it .i64, some [.int .i64 0]⟩,
 ⟨28, 1, .sl 5, some [.slice none 0 0]⟩,
 ⟨5, 1, .it .u8, some [.int .u8 0]⟩,
 ⟨94, 3, .st [(0, 4), (1, 28), (2, 92)], some [.bool false, .slice none 0 0, .slice none 0 0]⟩,
 ⟨4, 1, .bl, some [.bool false]⟩,
 ⟨92, 1, .sl 94, some [.slice none 0 0]⟩,
 ⟨69, 1, .it .u32, some [.int .u32 0]⟩,
 ⟨32, 32, .ar 32 5, some [.int .u8 0, .int .u8 0, .int .u8 0, .int .u8 0, .int .u8 0, .int .u8 0, .int .u8 0, .int .u8 0, .int .u8 0, .int .u8 0, .int .u8 0, .int .u8 0, .int .u8 0, .int .u8 0, .int .u8 0, .int .u8 0, .int .u8 0, .int .u8 0, .int .u8 0, .int .u8 0, .int .u8 0, .int .u8 0, .int .u8 0, .int .u8 0, .int .u8 0, .int .u8 0, .int .u8 0, .int .u8 0, .int .u8 0, .int .u8 0, .int .u8 0, .int .u8 0]⟩,
 ⟨81, 33, .st [(0, 28), (1, 32)], some [.slice none 0 0, .int .u8 0, .int .u8 0, .int .u8 0, .int .u8 0, .int .u8 0, .int .u8 0, .int .u8 0, .int .u8 0, .int .u8 0, .int .u8 0, .int .u8 0, .int .u8 0, .int .u8 0, .int .u8 0, .int .u8 0, .int .u8 0, .int .u8 0, .int .u8 0, .int .u8 0, .int .u8 0, .int .u8 0, .int .u8 0, .int .u8 0, .int .u8 0, .int .u8 0, .int .u8 0, .int .u8 0, .int .u8 0, .int .u8 0, .int .u8 0, .int .u8 0, .int .u8 0]⟩,
 ⟨44, 1, .sl 81, some [.slice none 0 0]⟩,
 ⟨35, 68, .st [(0, 3), (1, 2), (2, 2), (3, 32), (35, 32), (67, 33)], some [.int .i64 0, .int .i64 0, .int .i64 0, .int .u8 0, .int .u8 0, .int .u8 0, .int .u8 0, .int .u8 0, .int .u8 0, .int .u8 0, .int .u8 0, .int .u8 0, .int .u8 0, .int .u8 0, .int .u8 0, .int .u8 0, .int .u8 0, .int .u8 0, .int .u8 0, .int .u8 0, .int .u8 0, .int .u8 0, .int .u8 0, .int .u8 0, .int .u8 0, .int .u8 0, .int .u8 0, .int .u8 0, .int .u8 0, .int .u8 0, .int .u8 0, .int .u8 0, .int .u8 0, .int .u8 0, .int .u8 0, .int .u8 0, .int .u8 0, .int .u8 0, .int .u8 0, .int .u8 0, .int .u8 0, .int .u8 0, .int .u8 0, .int .u8 0, .int .u8 0, .int .u8 0, .int .u8 0, .int .u8 0, .int .u8 0, .int .u8 0, .int .u8 0, .int .u8 0, .int .u8 0, .int .u8 0, .int .u8 0, .int .u8 0, .int .u8 0, .int .u8 0, .int .u8 0, .int .u8 0, .int .u8 0, .int .u8 0, .int .u8 0, .int .u8 0, .int .u8 0, .int .u8 0, .int .u8 0, .slice none 0 0]⟩,
 ⟨2, 1, .it .i64, some [.int .i64 0]⟩,
 ⟨33, 1, .sl 59, some [.slice none 0 0]⟩,
 ⟨59, 3, .st [(0, 28), (1, 28), (2, 4)], some [.slice none 0 0, .slice none 0 0, .bool false]⟩,
 ⟨79, 1, .sl 28, some [.slice none 0 0]⟩,
 ⟨110, 1, .it .u64, some [.int .u64 0]⟩,
 ⟨151, 1, .it .u64, some [.int .u64 0]⟩,
 ⟨37, 1, .it .i64, some [.int .i64 0]⟩,
 ⟨185, 8, .ar 8 69, some [.int .u32 0, .int .u32 0, .int .u32 0, .int .u32 0, .int .u32 0, .int .u32 0, .int .u32 0, .int .u32 0]⟩,
 ⟨182, 64, .ar 64 5, some (zu .u8 64 [])⟩,
 ⟨176, 1, .it .u64, some [.int .u64 0]⟩,
 ⟨23, 1, .pt 78, some [.pointer none]⟩,
 ⟨78, 42, .st [(0, 3), (1, 3), (2, 32), (34, 73), (36, 76), (38, 76), (40, 76)], some [.int .i64 0, .int .i64 0, .int .u8 0, .int .u8 0, .int .u8 0, .int .u8 0, .int .u8 0, .int .u8 0, .int .u8 0, .int .u8 0, .int .u8 0, .int .u8 0, .int .u8 0, .int .u8 0, .int .u8 0, .int .u8 0, .int .u8 0, .int .u8 0, .int .u8 0, .int .u8 0, .int .u8 0, .int .u8 0, .int .u8 0, .int .u8 0, .int .u8 0, .int .u8 0, .int .u8 0, .int .u8 0, .int .u8 0, .int .u8 0, .int .u8 0, .int .u8 0, .int .u8 0, .int .u8 0, .int .i32 0, .int .u32 0, .map none, .int .i64 0, .map none, .int .i64 0, .map none, .int .i64 0]⟩,
 ⟨73, 2, .st [(0, 68), (0, 71)], some [.int .i32 0, .int .u32 0]⟩,
 ⟨68, 0, .st [], some []⟩,
 ⟨71, 2, .st [(0, 21), (1, 69)], some [.int .i32 0, .int .u32 0]⟩,
 ⟨21, 1, .it .i32, some [.int .i32 0]⟩,
 ⟨76, 2, .st [(0, 74), (1, 3)], some [.map none, .int .i64 0]⟩,
 ⟨74, 1, .mp 32 79, some [.map none]⟩,
 ⟨84, 1, .fnc, some [.nilFunc]⟩,
 ⟨187, 73, .st [(0, 185), (8, 182), (72, 2)], some (zu .u32 8 (zu .u8 64 (.int .i64 0 :: [])))⟩,
 ⟨205, 64, .ar 64 69, some (zu .u32 64 [])⟩,
 ⟨112, 4, .st [(0, 3), (1, 2), (2, 3), (3, 4)], some [.int .i64 0, .int .i64 0, .int .i64 0, .bool false]⟩,
 ⟨165, 2, .st [(0, 3), (1, 37)], some [.int .i64 0, .int .i64 0]⟩,
 ⟨100, 7, .ar 7 5, some [.int .u8 0, .int .u8 0, .int .u8 0, .int .u8 0, .int .u8 0, .int .u8 0, .int .u8 0]⟩,
 ⟨200, 72, .ar 72 5, some (zu .u8 72 [])⟩,
 ⟨30, 1, .sl 3, some [.slice none 0 0]⟩,
 ⟨41, 1, .sl 48, some [.slice none 0 0]⟩,
 ⟨48, 102, .st [(0, 35), (68, 32), (100, 3), (101, 3)], some [.int .i64 0, .int .i64 0, .int .i64 0, .int .u8 0, .int .u8 0, .int .u8 0, .int .u8 0, .int .u8 0, .int .u8 0, .int .u8 0, .int .u8 0, .int .u8 0, .int .u8 0, .int .u8 0, .int .u8 0, .int .u8 0, .int .u8 0, .int .u8 0, .int .u8 0, .int .u8 0, .int .u8 0, .int .u8 0, .int .u8 0, .int .u8 0, .int .u8 0, .int .u8 0, .int .u8 0, .int .u8 0, .int .u8 0, .int .u8 0, .int .u8 0, .int .u8 0, .int .u8 0, .int .u8 0, .int .u8 0, .int .u8 0, .int .u8 0, .int .u8 0, .int .u8 0, .int .u8 0, .int .u8 0, .int .u8 0, .int .u8 0, .int .u8 0, .int .u8 0, .int .u8 0, .int .u8 0, .int .u8 0, .int .u8 0, .int .u8 0, .int .u8 0, .int .u8 0, .int .u8 0, .int .u8 0, .int .u8 0, .int .u8 0, .int .u8 0, .int .u8 0, .int .u8 0, .int .u8 0, .int .u8 0, .int .u8 0, .int .u8 0, .int .u8 0, .int .u8 0, .int .u8 0, .int .u8 0, .slice none 0 0, .int .u8 0, .int .u8 0, .int .u8 0, .int .u8 0, .int .u8 0, .int .u8 0, .int .u8 0, .int .u8 0, .int .u8 0, .int .u8 0, .int .u8 0, .int .u8 0, .int .u8 0, .int .u8 0, .int .u8 0, .int .u8 0, .int .u8 0, .int .u8 0, .int .u8 0, .int .u8 0, .int .u8 0, .int .u8 0, .int .u8 0, .int .u8 0, .int .u8 0, .int .u8 0, .int .u8 0, .int .u8 0, .int .u8 0, .int .u8 0, .int .u8 0, .int .u8 0, .int .i64 0, .int .i64 0]⟩,
 ⟨180, 1, .pt 3, some [.pointer none]⟩,
 ⟨22, 1, .sl 35, some [.slice none 0 0]⟩,
 ⟨157, 1, .pt 191, some [.pointer none]⟩,
 ⟨191, 137, .st [(0, 187), (73, 182)], some (zu .u32 8 (zu .u8 64 (.int .i64 0 :: (zu .u8 64 []))))⟩,
 ⟨9, 1, .str, some [.string ⟨⟨[]⟩⟩]⟩,
 ⟨188, 1, .pt 187, some [.pointer none]⟩,
 ⟨29, 1, .sl 32, some [.slice none 0 0]⟩,
 ⟨135, 1, .pt 71, some [.pointer none]⟩,
 ⟨139, 1, .un, some [.pointer none]⟩,
 ⟨143, 1, .it .i64, some [.int .i64 0]⟩,
 ⟨20, 1, .ifc, some [.nilIface]⟩,
 ⟨89, 6, .st [(0, 3), (1, 3), (2, 28), (3, 87), (4, 87), (5, 87)], some [.int .i64 0, .int .i64 0, .slice none 0 0, .slice none 0 0, .slice none 0 0, .slice none 0 0]⟩,
 ⟨87, 1, .sl 224, some [.slice none 0 0]⟩,
 ⟨224, 33, .st [(0, 28), (1, 32)], some [.slice none 0 0, .int .u8 0, .int .u8 0, .int .u8 0, .int .u8 0, .int .u8 0, .int .u8 0, .int .u8 0, .int .u8 0, .int .u8 0, .int .u8 0, .int .u8 0, .int .u8 0, .int .u8 0, .int .u8 0, .int .u8 0, .int .u8 0, .int .u8 0, .int .u8 0, .int .u8 0, .int .u8 0, .int .u8 0, .int .u8 0, .int .u8 0, .int .u8 0, .int .u8 0, .int .u8 0, .int .u8 0, .int .u8 0, .int .u8 0, .int .u8 0, .int .u8 0, .int .u8 0]⟩,
 ⟨124, 1, .pt 76, some [.pointer none]⟩,
 ⟨137, 1, .pt 21, some [.pointer none]⟩,
 ⟨152, 8, .ar 2 112, some [.int .i64 0, .int .i64 0, .int .i64 0, .bool false, .int .i64 0, .int .i64 0, .int .i64 0, .bool false]⟩,
 ⟨83, 1, .fnc, some [.nilFunc]⟩]
theorem T_ok : T.all (teB Tryz.prog) = true := by kernel_rfl
def V : List (Nat × Nat) := [(3, 8), (28, 24), (5, 1), (94, 56), (4, 1), (92, 24), (69, 4), (32, 32), (81, 56), (44, 24), (35, 112), (2, 8), (33, 24), (59, 56), (79, 24), (110, 8), (151, 8), (37, 8), (185, 32), (182, 64), (176, 8), (23, 8), (78, 104), (73, 8), (68, 0), (71, 8), (21, 4), (76, 16), (74, 8), (84, 8), (187, 104), (205, 256), (112, 32), (165, 16), (100, 7), (200, 72), (30, 24), (41, 24), (48, 160), (180, 8), (22, 24), (157, 8), (191, 168), (9, 16), (188, 8), (29, 24), (135, 8), (139, 8), (143, 8), (20, 16), (89, 112), (87, 24), (224, 56), (124, 8), (137, 8), (152, 64), (83, 8)]
theorem V_ok : (V.all fun p => isN (bytesOfT Tryz.prog p.1) p.2) = true := by kernel_rfl
def hasT (s : St) : List (Nat × List Value) → Bool
 | [] => true
 | (g, l) :: r => sameL (match readAt s g 0 l.length with | some cs => cs | none => []) l && hasT s r
def fixH (args : List Value) (s : St) : Rv := match args with
 | [] => cond (hasT s Dg.tabs) (.ok (.bool true) s) .no
 | _ => .no
def fixK (f : FuncId) : Option (List Value → St → Rv) := cond (Nat.beq f 5) (some fixH) (insK Dg.hooks f)
noncomputable def B : Bx := ⟨Tryz.prog, fixK, T, T_ok, V, V_ok⟩
theorem fn3 : B.P.funcs[3]? = some Tryz.f3 := by kernel_rfl
theorem fn4 : B.P.funcs[4]? = some Tryz.f4 := by kernel_rfl
theorem ok4 : callOk B.P 4 = true := by kernel_rfl
theorem ok5 : callOk B.P 5 = true := by kernel_rfl
theorem fn6 : B.P.funcs[6]? = some Tryz.f6 := by kernel_rfl
theorem ok6 : callOk B.P 6 = true := by kernel_rfl
theorem fn7 : B.P.funcs[7]? = some Tryz.f7 := by kernel_rfl
theorem ok7 : callOk B.P 7 = true := by kernel_rfl
theorem fn8 : B.P.funcs[8]? = some Tryz.f8 := by kernel_rfl
theorem ok8 : callOk B.P 8 = true := by kernel_rfl
theorem fn9 : B.P.funcs[9]? = some Tryz.f9 := by kernel_rfl
theorem ok9 : callOk B.P 9 = true := by kernel_rfl
theorem fn10 : B.P.funcs[10]? = some Tryz.f10 := by kernel_rfl
theorem ok10 : callOk B.P 10 = true := by kernel_rfl
theorem fn11 : B.P.funcs[11]? = some Tryz.f11 := by kernel_rfl
theorem ok11 : callOk B.P 11 = true := by kernel_rfl
theorem fn12 : B.P.funcs[12]? = some Tryz.f12 := by kernel_rfl
theorem ok12 : callOk B.P 12 = true := by kernel_rfl
theorem fn13 : B.P.funcs[13]? = some Tryz.f13 := by kernel_rfl
theorem ok13 : callOk B.P 13 = true := by kernel_rfl
theorem fn14 : B.P.funcs[14]? = some Tryz.f14 := by kernel_rfl
theorem ok14 : callOk B.P 14 = true := by kernel_rfl
theorem fn15 : B.P.funcs[15]? = some Tryz.f15 := by kernel_rfl
theorem ok15 : callOk B.P 15 = true := by kernel_rfl
theorem fn16 : B.P.funcs[16]? = some Tryz.f16 := by kernel_rfl
theorem ok16 : callOk B.P 16 = true := by kernel_rfl
theorem fn17 : B.P.funcs[17]? = some Tryz.f17 := by kernel_rfl
theorem ok17 : callOk B.P 17 = true := by kernel_rfl
theorem fn18 : B.P.funcs[18]? = some Tryz.f18 := by kernel_rfl
theorem ok18 : callOk B.P 18 = true := by kernel_rfl
theorem fn19 : B.P.funcs[19]? = some Tryz.f19 := by kernel_rfl
theorem ok19 : callOk B.P 19 = true := by kernel_rfl
theorem fn20 : B.P.funcs[20]? = some Tryz.f20 := by kernel_rfl
theorem ok20 : callOk B.P 20 = true := by kernel_rfl
theorem fn21 : B.P.funcs[21]? = some Tryz.f21 := by kernel_rfl
theorem ok21 : callOk B.P 21 = true := by kernel_rfl
theorem fn22 : B.P.funcs[22]? = some Tryz.f22 := by kernel_rfl
theorem ok22 : callOk B.P 22 = true := by kernel_rfl
theorem fn23 : B.P.funcs[23]? = some Tryz.f23 := by kernel_rfl
theorem ok23 : callOk B.P 23 = true := by kernel_rfl
theorem fn24 : B.P.funcs[24]? = some Tryz.f24 := by kernel_rfl
theorem fn25 : B.P.funcs[25]? = some Tryz.f25 := by kernel_rfl
theorem ok25 : callOk B.P 25 = true := by kernel_rfl
theorem fn26 : B.P.funcs[26]? = some Tryz.f26 := by kernel_rfl
theorem ok26 : callOk B.P 26 = true := by kernel_rfl
theorem fn28 : B.P.funcs[28]? = some Tryz.f28 := by kernel_rfl
theorem ok28 : callOk B.P 28 = true := by kernel_rfl
theorem fn29 : B.P.funcs[29]? = some Tryz.f29 := by kernel_rfl
theorem ok29 : callOk B.P 29 = true := by kernel_rfl
theorem fn30 : B.P.funcs[30]? = some Tryz.f30 := by kernel_rfl
theorem ok30 : callOk B.P 30 = true := by kernel_rfl
theorem fn31 : B.P.funcs[31]? = some Tryz.f31 := by kernel_rfl
theorem ok31 : callOk B.P 31 = true := by kernel_rfl
theorem fn32 : B.P.funcs[32]? = some Tryz.f32 := by kernel_rfl
theorem ok32 : callOk B.P 32 = true := by kernel_rfl
theorem fn33 : B.P.funcs[33]? = some Tryz.f33 := by kernel_rfl
theorem ok33 : callOk B.P 33 = true := by kernel_rfl
theorem fn34 : B.P.funcs[34]? = some Tryz.f34 := by kernel_rfl
theorem ok34 : callOk B.P 34 = true := by kernel_rfl
theorem fn35 : B.P.funcs[35]? = some Tryz.f35 := by kernel_rfl
theorem ok35 : callOk B.P 35 = true := by kernel_rfl
theorem fn36 : B.P.funcs[36]? = some Tryz.f36 := by kernel_rfl
theorem ok36 : callOk B.P 36 = true := by kernel_rfl
theorem fn37 : B.P.funcs[37]? = some Tryz.f37 := by kernel_rfl
theorem ok37 : callOk B.P 37 = true := by kernel_rfl
theorem fn38 : B.P.funcs[38]? = some Tryz.f38 := by kernel_rfl
theorem ok38 : callOk B.P 38 = true := by kernel_rfl
theorem fn39 : B.P.funcs[39]? = some Tryz.f39 := by kernel_rfl
theorem ok39 : callOk B.P 39 = true := by kernel_rfl
theorem fn40 : B.P.funcs[40]? = some Tryz.f40 := by kernel_rfl
theorem ok40 : callOk B.P 40 = true := by kernel_rfl
theorem fn41 : B.P.funcs[41]? = some Tryz.f41 := by kernel_rfl
theorem ok41 : callOk B.P 41 = true := by kernel_rfl
theorem fn42 : B.P.funcs[42]? = some Tryz.f42 := by kernel_rfl
theorem ok42 : callOk B.P 42 = true := by kernel_rfl
theorem fn43 : B.P.funcs[43]? = some Tryz.f43 := by kernel_rfl
theorem ok43 : callOk B.P 43 = true := by kernel_rfl
theorem fn44 : B.P.funcs[44]? = some Tryz.f44 := by kernel_rfl
theorem ok44 : callOk B.P 44 = true := by kernel_rfl
theorem fn45 : B.P.funcs[45]? = some Tryz.f45 := by kernel_rfl
theorem ok45 : callOk B.P 45 = true := by kernel_rfl
theorem fn46 : B.P.funcs[46]? = some Tryz.f46 := by kernel_rfl
theorem ok46 : callOk B.P 46 = true := by kernel_rfl
theorem fn47 : B.P.funcs[47]? = some Tryz.f47 := by kernel_rfl
theorem ok47 : callOk B.P 47 = true := by kernel_rfl
theorem fn48 : B.P.funcs[48]? = some Tryz.f48 := by kernel_rfl
theorem ok48 : callOk B.P 48 = true := by kernel_rfl
theorem fn50 : B.P.funcs[50]? = some Tryz.f50 := by kernel_rfl
theorem ok50 : callOk B.P 50 = true := by kernel_rfl
theorem fn51 : B.P.funcs[51]? = some Tryz.f51 := by kernel_rfl
theorem ok51 : callOk B.P 51 = true := by kernel_rfl
theorem fn52 : B.P.funcs[52]? = some Tryz.f52 := by kernel_rfl
theorem ok52 : callOk B.P 52 = true := by kernel_rfl
theorem fn53 : B.P.funcs[53]? = some Tryz.f53 := by kernel_rfl
theorem ok53 : callOk B.P 53 = true := by kernel_rfl
theorem fn54 : B.P.funcs[54]? = some Tryz.f54 := by kernel_rfl
theorem ok54 : callOk B.P 54 = true := by kernel_rfl
theorem fn55 : B.P.funcs[55]? = some Tryz.f55 := by kernel_rfl
theorem ok55 : callOk B.P 55 = true := by kernel_rfl
theorem fn56 : B.P.funcs[56]? = some Tryz.f56 := by kernel_rfl
theorem ok56 : callOk B.P 56 = true := by kernel_rfl
theorem fn57 : B.P.funcs[57]? = some Tryz.f57 := by kernel_rfl
theorem ok57 : callOk B.P 57 = true := by kernel_rfl
theorem fn58 : B.P.funcs[58]? = some Tryz.f58 := by kernel_rfl
theorem ok58 : callOk B.P 58 = true := by kernel_rfl
theorem fn59 : B.P.funcs[59]? = some Tryz.f59 := by kernel_rfl
theorem ok59 : callOk B.P 59 = true := by kernel_rfl
theorem fn60 : B.P.funcs[60]? = some Tryz.f60 := by kernel_rfl
theorem ok60 : callOk B.P 60 = true := by kernel_rfl
theorem fn61 : B.P.funcs[61]? = some Tryz.f61 := by kernel_rfl
theorem ok61 : callOk B.P 61 = true := by kernel_rfl
theorem fn62 : B.P.funcs[62]? = some Tryz.f62 := by kernel_rfl
theorem ok62 : callOk B.P 62 = true := by kernel_rfl
theorem fn63 : B.P.funcs[63]? = some Tryz.f63 := by kernel_rfl
theorem ok63 : callOk B.P 63 = true := by kernel_rfl
theorem fn64 : B.P.funcs[64]? = some Tryz.f64 := by kernel_rfl
theorem ok64 : callOk B.P 64 = true := by kernel_rfl
theorem fn65 : B.P.funcs[65]? = some Tryz.f65 := by kernel_rfl
theorem ok65 : callOk B.P 65 = true := by kernel_rfl
theorem fn66 : B.P.funcs[66]? = some Tryz.f66 := by kernel_rfl
theorem ok66 : callOk B.P 66 = true := by kernel_rfl
theorem fn67 : B.P.funcs[67]? = some Tryz.f67 := by kernel_rfl
theorem ok67 : callOk B.P 67 = true := by kernel_rfl
theorem fn68 : B.P.funcs[68]? = some Tryz.f68 := by kernel_rfl
theorem ok68 : callOk B.P 68 = true := by kernel_rfl
theorem fn77 : B.P.funcs[77]? = some Tryz.f77 := by kernel_rfl
theorem ok77 : callOk B.P 77 = true := by kernel_rfl
theorem fn86 : B.P.funcs[86]? = some Tryz.f86 := by kernel_rfl
theorem ok86 : callOk B.P 86 = true := by kernel_rfl
theorem fn87 : B.P.funcs[87]? = some Tryz.f87 := by kernel_rfl
theorem ok87 : callOk B.P 87 = true := by kernel_rfl
theorem fn88 : B.P.funcs[88]? = some Tryz.f88 := by kernel_rfl
theorem ok88 : callOk B.P 88 = true := by kernel_rfl
theorem fn89 : B.P.funcs[89]? = some Tryz.f89 := by kernel_rfl
theorem ok89 : callOk B.P 89 = true := by kernel_rfl
theorem fn90 : B.P.funcs[90]? = some Tryz.f90 := by kernel_rfl
theorem ok90 : callOk B.P 90 = true := by kernel_rfl
theorem fn91 : B.P.funcs[91]? = some Tryz.f91 := by kernel_rfl
theorem ok91 : callOk B.P 91 = true := by kernel_rfl
theorem fn92 : B.P.funcs[92]? = some Tryz.f92 := by kernel_rfl
theorem ok92 : callOk B.P 92 = true := by kernel_rfl
theorem fn93 : B.P.funcs[93]? = some Tryz.f93 := by kernel_rfl
theorem ok93 : callOk B.P 93 = true := by kernel_rfl
theorem fn94 : B.P.funcs[94]? = some Tryz.f94 := by kernel_rfl
theorem ok94 : callOk B.P 94 = true := by kernel_rfl
theorem fn95 : B.P.funcs[95]? = some Tryz.f95 := by kernel_rfl
theorem ok95 : callOk B.P 95 = true := by kernel_rfl
theorem fn98 : B.P.funcs[98]? = some Tryz.f98 := by kernel_rfl
theorem ok98 : callOk B.P 98 = true := by kernel_rfl
theorem fn100 : B.P.funcs[100]? = some Tryz.f100 := by kernel_rfl
theorem ok100 : callOk B.P 100 = true := by kernel_rfl
theorem fn102 : B.P.funcs[102]? = some Tryz.f102 := by kernel_rfl
theorem ok102 : callOk B.P 102 = true := by kernel_rfl
theorem fn115 : B.P.funcs[115]? = some Tryz.f115 := by kernel_rfl
theorem ok115 : callOk B.P 115 = true := by kernel_rfl
theorem fn116 : B.P.funcs[116]? = some Tryz.f116 := by kernel_rfl
theorem ok116 : callOk B.P 116 = true := by kernel_rfl
theorem fn117 : B.P.funcs[117]? = some Tryz.f117 := by kernel_rfl
theorem ok117 : callOk B.P 117 = true := by kernel_rfl
theorem fn118 : B.P.funcs[118]? = some Tryz.f118 := by kernel_rfl
theorem ok118 : callOk B.P 118 = true := by kernel_rfl
theorem fn119 : B.P.funcs[119]? = some Tryz.f119 := by kernel_rfl
theorem ok119 : callOk B.P 119 = true := by kernel_rfl
theorem fn120 : B.P.funcs[120]? = some Tryz.f120 := by kernel_rfl
theorem ok120 : callOk B.P 120 = true := by kernel_rfl
theorem fn121 : B.P.funcs[121]? = some Tryz.f121 := by kernel_rfl
theorem ok121 : callOk B.P 121 = true := by kernel_rfl
theorem fn123 : B.P.funcs[123]? = some Tryz.f123 := by kernel_rfl
theorem ok123 : callOk B.P 123 = true := by kernel_rfl
theorem fn124 : B.P.funcs[124]? = some Tryz.f124 := by kernel_rfl
theorem ok124 : callOk B.P 124 = true := by kernel_rfl
theorem fn125 : B.P.funcs[125]? = some Tryz.f125 := by kernel_rfl
theorem ok125 : callOk B.P 125 = true := by kernel_rfl
theorem ok127 : callOk B.P 127 = true := by kernel_rfl
theorem fn128 : B.P.funcs[128]? = some Tryz.f128 := by kernel_rfl
theorem ok128 : callOk B.P 128 = true := by kernel_rfl
theorem fn130 : B.P.funcs[130]? = some Tryz.f130 := by kernel_rfl
theorem ok130 : callOk B.P 130 = true := by kernel_rfl
end Go.Proofs.YtglilbadldocoaaGreatDoor
