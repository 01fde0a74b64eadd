import Derived.Test.YtnbdpcpgckfeeaaGreatDoorXjzz
import Derived.Test.YtnbdpcpgckfeeaaGreatDoorChecked
import Derived.Test.YtnbdpcpgckfeeaaGreatDoorKjzz
import Derived.Test.YtnbdpcpgckfeeaaGreatDoorWnzz
namespace Go.Proofs.YtnbdpcpgckfeeaaGreatDoor
open Go Go.Ev Go.Sy
set_option maxRecDepth 100000
def T:List TE:=[⟨3,1,.it .i64,some [.int .i64 0]⟩,
 ⟨26,32,.ar 32 5,some [.int .u8 0,.int .u8 0,.int .u8 0,.int .u8 0,.int .u8 0,.int .u8 0,.int .u8 0,.int .u8 0,.int .u8 0,.int .u8 0,.int .u8 0,.int .u8 0,.int .u8 0,.int .u8 0,.int .u8 0,.int .u8 0,.int .u8 0,.int .u8 0,.int .u8 0,.int .u8 0,.int .u8 0,.int .u8 0,.int .u8 0,.int .u8 0,.int .u8 0,.int .u8 0,.int .u8 0,.int .u8 0,.int .u8 0,.int .u8 0,.int .u8 0,.int .u8 0]⟩,
 ⟨5,1,.it .u8,some [.int .u8 0]⟩,
 ⟨68,1,.it .u32,some [.int .u32 0]⟩,
 ⟨23,1,.sl 5,some [.slice none 0 0]⟩,
 ⟨41,1,.sl 26,some [.slice none 0 0]⟩,
 ⟨22,1,.sl 23,some [.slice none 0 0]⟩,
 ⟨143,68,.st [(0,3),(1,26),(33,23),(34,3),(35,49)],some [.int .i64 0,.int .u8 0,.int .u8 0,.int .u8 0,.int .u8 0,.int .u8 0,.int .u8 0,.int .u8 0,.int .u8 0,.int .u8 0,.int .u8 0,.int .u8 0,.int .u8 0,.int .u8 0,.int .u8 0,.int .u8 0,.int .u8 0,.int .u8 0,.int .u8 0,.int .u8 0,.int .u8 0,.int .u8 0,.int .u8 0,.int .u8 0,.int .u8 0,.int .u8 0,.int .u8 0,.int .u8 0,.int .u8 0,.int .u8 0,.int .u8 0,.int .u8 0,.int .u8 0,.slice none 0 0,.int .i64 0,.int .i64 0,.int .u8 0,.int .u8 0,.int .u8 0,.int .u8 0,.int .u8 0,.int .u8 0,.int .u8 0,.int .u8 0,.int .u8 0,.int .u8 0,.int .u8 0,.int .u8 0,.int .u8 0,.int .u8 0,.int .u8 0,.int .u8 0,.int .u8 0,.int .u8 0,.int .u8 0,.int .u8 0,.int .u8 0,.int .u8 0,.int .u8 0,.int .u8 0,.int .u8 0,.int .u8 0,.int .u8 0,.int .u8 0,.int .u8 0,.int .u8 0,.int .u8 0,.int .u8 0]⟩,
 ⟨49,33,.st [(0,2),(1,26)],some [.int .i64 0,.int .u8 0,.int .u8 0,.int .u8 0,.int .u8 0,.int .u8 0,.int .u8 0,.int .u8 0,.int .u8 0,.int .u8 0,.int .u8 0,.int .u8 0,.int .u8 0,.int .u8 0,.int .u8 0,.int .u8 0,.int .u8 0,.int .u8 0,.int .u8 0,.int .u8 0,.int .u8 0,.int .u8 0,.int .u8 0,.int .u8 0,.int .u8 0,.int .u8 0,.int .u8 0,.int .u8 0,.int .u8 0,.int .u8 0,.int .u8 0,.int .u8 0,.int .u8 0]⟩,
 ⟨2,1,.it .i64,some [.int .i64 0]⟩,
 ⟨29,1,.pt 92,some [.pointer none]⟩,
 ⟨92,44,.st [(0,3),(1,3),(2,77),(3,23),(4,49),(37,4),(38,59),(39,75),(40,62),(41,90),(42,22),(43,41)],some [.int .i64 0,.int .i64 0,.map none,.slice none 0 0,.int .i64 0,.int .u8 0,.int .u8 0,.int .u8 0,.int .u8 0,.int .u8 0,.int .u8 0,.int .u8 0,.int .u8 0,.int .u8 0,.int .u8 0,.int .u8 0,.int .u8 0,.int .u8 0,.int .u8 0,.int .u8 0,.int .u8 0,.int .u8 0,.int .u8 0,.int .u8 0,.int .u8 0,.int .u8 0,.int .u8 0,.int .u8 0,.int .u8 0,.int .u8 0,.int .u8 0,.int .u8 0,.int .u8 0,.int .u8 0,.int .u8 0,.int .u8 0,.int .u8 0,.bool false,.slice none 0 0,.slice none 0 0,.map none,.map none,.slice none 0 0,.slice none 0 0]⟩,
 ⟨77,1,.mp 26 23,some [.map none]⟩,
 ⟨4,1,.bl,some [.bool false]⟩,
 ⟨59,1,.sl 110,some [.slice none 0 0]⟩,
 ⟨110,3,.st [(0,3),(1,3),(2,3)],some [.int .i64 0,.int .i64 0,.int .i64 0]⟩,
 ⟨75,1,.sl 116,some [.slice none 0 0]⟩,
 ⟨116,3,.st [(0,3),(1,3),(2,4)],some [.int .i64 0,.int .i64 0,.bool false]⟩,
 ⟨62,1,.mp 26 22,some [.map none]⟩,
 ⟨90,1,.mp 26 113,some [.map none]⟩,
 ⟨113,1,.sl 112,some [.slice none 0 0]⟩,
 ⟨112,3,.st [(0,3),(1,23),(2,4)],some [.int .i64 0,.slice none 0 0,.bool false]⟩,
 ⟨140,36,.st [(0,23),(1,41),(2,49),(35,30)],some [.slice none 0 0,.slice none 0 0,.int .i64 0,.int .u8 0,.int .u8 0,.int .u8 0,.int .u8 0,.int .u8 0,.int .u8 0,.int .u8 0,.int .u8 0,.int .u8 0,.int .u8 0,.int .u8 0,.int .u8 0,.int .u8 0,.int .u8 0,.int .u8 0,.int .u8 0,.int .u8 0,.int .u8 0,.int .u8 0,.int .u8 0,.int .u8 0,.int .u8 0,.int .u8 0,.int .u8 0,.int .u8 0,.int .u8 0,.int .u8 0,.int .u8 0,.int .u8 0,.int .u8 0,.int .u8 0,.int .u8 0,.int .i64 0]⟩,
 ⟨30,1,.it .i64,some [.int .i64 0]⟩,
 ⟨103,8,.ar 8 68,some [.int .u32 0,.int .u32 0,.int .u32 0,.int .u32 0,.int .u32 0,.int .u32 0,.int .u32 0,.int .u32 0]⟩,
 ⟨157,1,.it .u64,some [.int .u64 0]⟩,
 ⟨51,37,.st [(0,3),(1,3),(2,47),(3,23),(4,49)],some [.int .i64 0,.int .i64 0,.slice none 0 0,.slice none 0 0,.int .i64 0,.int .u8 0,.int .u8 0,.int .u8 0,.int .u8 0,.int .u8 0,.int .u8 0,.int .u8 0,.int .u8 0,.int .u8 0,.int .u8 0,.int .u8 0,.int .u8 0,.int .u8 0,.int .u8 0,.int .u8 0,.int .u8 0,.int .u8 0,.int .u8 0,.int .u8 0,.int .u8 0,.int .u8 0,.int .u8 0,.int .u8 0,.int .u8 0,.int .u8 0,.int .u8 0,.int .u8 0,.int .u8 0,.int .u8 0,.int .u8 0,.int .u8 0,.int .u8 0]⟩,
 ⟨47,1,.sl 94,some [.slice none 0 0]⟩,
 ⟨94,33,.st [(0,26),(32,23)],some [.int .u8 0,.int .u8 0,.int .u8 0,.int .u8 0,.int .u8 0,.int .u8 0,.int .u8 0,.int .u8 0,.int .u8 0,.int .u8 0,.int .u8 0,.int .u8 0,.int .u8 0,.int .u8 0,.int .u8 0,.int .u8 0,.int .u8 0,.int .u8 0,.int .u8 0,.int .u8 0,.int .u8 0,.int .u8 0,.int .u8 0,.int .u8 0,.int .u8 0,.int .u8 0,.int .u8 0,.int .u8 0,.int .u8 0,.int .u8 0,.int .u8 0,.int .u8 0,.slice none 0 0]⟩,
 ⟨38,1,.pt 83,some [.pointer none]⟩,
 ⟨83,6,.st [(0,29),(1,33),(2,79),(5,81)],some [.pointer none,.pointer none,.int .i64 0,.slice none 0 0,.map none,.map none]⟩,
 ⟨33,1,.pt 74,some [.pointer none]⟩,
 ⟨74,42,.st [(0,3),(1,3),(2,26),(34,72),(36,64),(38,64),(40,64)],some [.int .i64 0,.int .i64 0,.int .u8 0,.int .u8 0,.int .u8 0,.int .u8 0,.int .u8 0,.int .u8 0,.int .u8 0,.int .u8 0,.int .u8 0,.int .u8 0,.int .u8 0,.int .u8 0,.int .u8 0,.int .u8 0,.int .u8 0,.int .u8 0,.int .u8 0,.int .u8 0,.int .u8 0,.int .u8 0,.int .u8 0,.int .u8 0,.int .u8 0,.int .u8 0,.int .u8 0,.int .u8 0,.int .u8 0,.int .u8 0,.int .u8 0,.int .u8 0,.int .u8 0,.int .u8 0,.int .i32 0,.int .u32 0,.map none,.int .i64 0,.map none,.int .i64 0,.map none,.int .i64 0]⟩,
 ⟨72,2,.st [(0,67),(0,70)],some [.int .i32 0,.int .u32 0]⟩,
 ⟨67,0,.st [],some []⟩,
 ⟨70,2,.st [(0,21),(1,68)],some [.int .i32 0,.int .u32 0]⟩,
 ⟨21,1,.it .i32,some [.int .i32 0]⟩,
 ⟨64,2,.st [(0,62),(1,3)],some [.map none,.int .i64 0]⟩,
 ⟨79,3,.st [(0,3),(1,41),(2,77)],some [.int .i64 0,.slice none 0 0,.map none]⟩,
 ⟨81,1,.mp 26 66,some [.map none]⟩,
 ⟨66,0,.st [],some []⟩,
 ⟨135,64,.ar 64 68,some [.int .u32 0,.int .u32 0,.int .u32 0,.int .u32 0,.int .u32 0,.int .u32 0,.int .u32 0,.int .u32 0,.int .u32 0,.int .u32 0,.int .u32 0,.int .u32 0,.int .u32 0,.int .u32 0,.int .u32 0,.int .u32 0,.int .u32 0,.int .u32 0,.int .u32 0,.int .u32 0,.int .u32 0,.int .u32 0,.int .u32 0,.int .u32 0,.int .u32 0,.int .u32 0,.int .u32 0,.int .u32 0,.int .u32 0,.int .u32 0,.int .u32 0,.int .u32 0,.int .u32 0,.int .u32 0,.int .u32 0,.int .u32 0,.int .u32 0,.int .u32 0,.int .u32 0,.int .u32 0,.int .u32 0,.int .u32 0,.int .u32 0,.int .u32 0,.int .u32 0,.int .u32 0,.int .u32 0,.int .u32 0,.int .u32 0,.int .u32 0,.int .u32 0,.int .u32 0,.int .u32 0,.int .u32 0,.int .u32 0,.int .u32 0,.int .u32 0,.int .u32 0,.int .u32 0,.int .u32 0,.int .u32 0,.int .u32 0,.int .u32 0,.int .u32 0]⟩,
 ⟨102,1,.fnc,some [.nilFunc]⟩,
 ⟨192,1,.it .u64,some [.int .u64 0]⟩,
 ⟨134,1,.it .u64,some [.int .u64 0]⟩,
 ⟨153,73,.st [(0,103),(8,151),(72,2)],some [.int .u32 0,.int .u32 0,.int .u32 0,.int .u32 0,.int .u32 0,.int .u32 0,.int .u32 0,.int .u32 0,.int .u8 0,.int .u8 0,.int .u8 0,.int .u8 0,.int .u8 0,.int .u8 0,.int .u8 0,.int .u8 0,.int .u8 0,.int .u8 0,.int .u8 0,.int .u8 0,.int .u8 0,.int .u8 0,.int .u8 0,.int .u8 0,.int .u8 0,.int .u8 0,.int .u8 0,.int .u8 0,.int .u8 0,.int .u8 0,.int .u8 0,.int .u8 0,.int .u8 0,.int .u8 0,.int .u8 0,.int .u8 0,.int .u8 0,.int .u8 0,.int .u8 0,.int .u8 0,.int .u8 0,.int .u8 0,.int .u8 0,.int .u8 0,.int .u8 0,.int .u8 0,.int .u8 0,.int .u8 0,.int .u8 0,.int .u8 0,.int .u8 0,.int .u8 0,.int .u8 0,.int .u8 0,.int .u8 0,.int .u8 0,.int .u8 0,.int .u8 0,.int .u8 0,.int .u8 0,.int .u8 0,.int .u8 0,.int .u8 0,.int .u8 0,.int .u8 0,.int .u8 0,.int .u8 0,.int .u8 0,.int .u8 0,.int .u8 0,.int .u8 0,.int .u8 0,.int .i64 0]⟩,
 ⟨151,64,.ar 64 5,some [.int .u8 0,.int .u8 0,.int .u8 0,.int .u8 0,.int .u8 0,.int .u8 0,.int .u8 0,.int .u8 0,.int .u8 0,.int .u8 0,.int .u8 0,.int .u8 0,.int .u8 0,.int .u8 0,.int .u8 0,.int .u8 0,.int .u8 0,.int .u8 0,.int .u8 0,.int .u8 0,.int .u8 0,.int .u8 0,.int .u8 0,.int .u8 0,.int .u8 0,.int .u8 0,.int .u8 0,.int .u8 0,.int .u8 0,.int .u8 0,.int .u8 0,.int .u8 0,.int .u8 0,.int .u8 0,.int .u8 0,.int .u8 0,.int .u8 0,.int .u8 0,.int .u8 0,.int .u8 0,.int .u8 0,.int .u8 0,.int .u8 0,.int .u8 0,.int .u8 0,.int .u8 0,.int .u8 0,.int .u8 0,.int .u8 0,.int .u8 0,.int .u8 0,.int .u8 0,.int .u8 0,.int .u8 0,.int .u8 0,.int .u8 0,.int .u8 0,.int .u8 0,.int .u8 0,.int .u8 0,.int .u8 0,.int .u8 0,.int .u8 0,.int .u8 0]⟩,
 ⟨170,4,.st [(0,168),(1,168),(2,168),(3,168)],some [.nilFunc,.nilFunc,.nilFunc,.nilFunc]⟩,
 ⟨168,1,.fnc,some [.nilFunc]⟩,
 ⟨9,1,.str,some [.string ⟨⟨[]⟩⟩]⟩,
 ⟨154,72,.ar 72 5,some [.int .u8 0,.int .u8 0,.int .u8 0,.int .u8 0,.int .u8 0,.int .u8 0,.int .u8 0,.int .u8 0,.int .u8 0,.int .u8 0,.int .u8 0,.int .u8 0,.int .u8 0,.int .u8 0,.int .u8 0,.int .u8 0,.int .u8 0,.int .u8 0,.int .u8 0,.int .u8 0,.int .u8 0,.int .u8 0,.int .u8 0,.int .u8 0,.int .u8 0,.int .u8 0,.int .u8 0,.int .u8 0,.int .u8 0,.int .u8 0,.int .u8 0,.int .u8 0,.int .u8 0,.int .u8 0,.int .u8 0,.int .u8 0,.int .u8 0,.int .u8 0,.int .u8 0,.int .u8 0,.int .u8 0,.int .u8 0,.int .u8 0,.int .u8 0,.int .u8 0,.int .u8 0,.int .u8 0,.int .u8 0,.int .u8 0,.int .u8 0,.int .u8 0,.int .u8 0,.int .u8 0,.int .u8 0,.int .u8 0,.int .u8 0,.int .u8 0,.int .u8 0,.int .u8 0,.int .u8 0,.int .u8 0,.int .u8 0,.int .u8 0,.int .u8 0,.int .u8 0,.int .u8 0,.int .u8 0,.int .u8 0,.int .u8 0,.int .u8 0,.int .u8 0,.int .u8 0]⟩,
 ⟨196,1,.pt 3,some [.pointer none]⟩,
 ⟨121,1,.pt 153,some [.pointer none]⟩,
 ⟨118,1,.pt 79,some [.pointer none]⟩,
 ⟨100,1,.fnc,some [.nilFunc]⟩,
 ⟨131,1,.fnc,some [.nilFunc]⟩,
 ⟨144,1,.pt 70,some [.pointer none]⟩,
 ⟨148,1,.un,some [.pointer none]⟩,
 ⟨171,32,.ar 8 170,some [.nilFunc,.nilFunc,.nilFunc,.nilFunc,.nilFunc,.nilFunc,.nilFunc,.nilFunc,.nilFunc,.nilFunc,.nilFunc,.nilFunc,.nilFunc,.nilFunc,.nilFunc,.nilFunc,.nilFunc,.nilFunc,.nilFunc,.nilFunc,.nilFunc,.nilFunc,.nilFunc,.nilFunc,.nilFunc,.nilFunc,.nilFunc,.nilFunc,.nilFunc,.nilFunc,.nilFunc,.nilFunc]⟩,
 ⟨179,1,.it .i64,some [.int .i64 0]⟩,
 ⟨146,1,.pt 21,some [.pointer none]⟩,
 ⟨125,1,.pt 64,some [.pointer none]⟩,
 ⟨57,1,.fnc,some [.nilFunc]⟩,
 ⟨206,1,.fnc,some [.nilFunc]⟩]
theorem T_ok:T.all (teB Tryz.prog)=true:=by kernel_rfl
def V:List (Nat×Nat):=[(3,8),(26,32),(5,1),(68,4),(23,24),(41,24),(22,24),(143,112),(49,40),(2,8),(29,8),(92,208),(77,8),(4,1),(59,24),(110,24),(75,24),(116,24),(62,8),(90,8),(113,24),(112,40),(140,96),(30,8),(103,32),(157,8),(51,104),(47,24),(94,56),(38,8),(83,64),(33,8),(74,104),(72,8),(67,0),(70,8),(21,4),(64,16),(79,40),(81,8),(66,0),(135,256),(102,8),(192,8),(134,8),(153,104),(151,64),(170,32),(168,8),(9,16),(154,72),(196,8),(121,8),(118,8),(100,8),(131,8),(144,8),(148,8),(171,256),(179,8),(146,8),(125,8),(57,8),(206,8)]
theorem V_ok:(V.all fun p=>isN (bytesOfT Tryz.prog p.1) p.2)=true:=by kernel_rfl
def hasT(s:St):List (Nat×List Value)→Bool
 |[]=>true
 |(g,l)::r=>sameL (match readAt s g 0 l.length with|some cs=>cs|none=>[]) l&&hasT s r
def fixH(args:List Value)(s:St):Rv:=match args with
 |[]=>cond (hasT s Dg.tabs) (.ok (.bool true) s) .no
 |_=>.no
noncomputable def fixK(f:FuncId):Option (List Value→St→Rv):=cond (Nat.beq f 10) (some fixH) (keysK Dg.hooks f)
noncomputable def B:Bx:=⟨Tryz.prog,fixK,T,T_ok,V,V_ok⟩
theorem fn3:B.P.funcs[3]? =some Tryz.f3:=by kernel_rfl
theorem fn4:B.P.funcs[4]? =some Tryz.f4:=by kernel_rfl
theorem ok4:callOk B.P 4=true:=by kernel_rfl
theorem fn5:B.P.funcs[5]? =some Tryz.f5:=by kernel_rfl
theorem ok5:callOk B.P 5=true:=by kernel_rfl
theorem fn6:B.P.funcs[6]? =some Tryz.f6:=by kernel_rfl
theorem ok6:callOk B.P 6=true:=by kernel_rfl
theorem fn7:B.P.funcs[7]? =some Tryz.f7:=by kernel_rfl
theorem ok7:callOk B.P 7=true:=by kernel_rfl
theorem fn8:B.P.funcs[8]? =some Tryz.f8:=by kernel_rfl
theorem ok8:callOk B.P 8=true:=by kernel_rfl
theorem fn9:B.P.funcs[9]? =some Tryz.f9:=by kernel_rfl
theorem ok9:callOk B.P 9=true:=by kernel_rfl
theorem ok10:callOk B.P 10=true:=by kernel_rfl
theorem fn11:B.P.funcs[11]? =some Tryz.f11:=by kernel_rfl
theorem ok11:callOk B.P 11=true:=by kernel_rfl
theorem fn12:B.P.funcs[12]? =some Tryz.f12:=by kernel_rfl
theorem ok12:callOk B.P 12=true:=by kernel_rfl
theorem fn13:B.P.funcs[13]? =some Tryz.f13:=by kernel_rfl
theorem ok13:callOk B.P 13=true:=by kernel_rfl
theorem fn14:B.P.funcs[14]? =some Tryz.f14:=by kernel_rfl
theorem ok14:callOk B.P 14=true:=by kernel_rfl
theorem fn15:B.P.funcs[15]? =some Tryz.f15:=by kernel_rfl
theorem ok15:callOk B.P 15=true:=by kernel_rfl
theorem fn16:B.P.funcs[16]? =some Tryz.f16:=by kernel_rfl
theorem ok16:callOk B.P 16=true:=by kernel_rfl
theorem fn17:B.P.funcs[17]? =some Tryz.f17:=by kernel_rfl
theorem ok17:callOk B.P 17=true:=by kernel_rfl
theorem fn18:B.P.funcs[18]? =some Tryz.f18:=by kernel_rfl
theorem ok18:callOk B.P 18=true:=by kernel_rfl
theorem fn19:B.P.funcs[19]? =some Tryz.f19:=by kernel_rfl
theorem ok19:callOk B.P 19=true:=by kernel_rfl
theorem fn20:B.P.funcs[20]? =some Tryz.f20:=by kernel_rfl
theorem ok20:callOk B.P 20=true:=by kernel_rfl
theorem fn21:B.P.funcs[21]? =some Tryz.f21:=by kernel_rfl
theorem ok21:callOk B.P 21=true:=by kernel_rfl
theorem fn22:B.P.funcs[22]? =some Tryz.f22:=by kernel_rfl
theorem ok22:callOk B.P 22=true:=by kernel_rfl
theorem fn23:B.P.funcs[23]? =some Tryz.f23:=by kernel_rfl
theorem ok23:callOk B.P 23=true:=by kernel_rfl
theorem fn24:B.P.funcs[24]? =some Tryz.f24:=by kernel_rfl
theorem ok24:callOk B.P 24=true:=by kernel_rfl
theorem fn25:B.P.funcs[25]? =some Tryz.f25:=by kernel_rfl
theorem ok25:callOk B.P 25=true:=by kernel_rfl
theorem fn26:B.P.funcs[26]? =some Tryz.f26:=by kernel_rfl
theorem ok26:callOk B.P 26=true:=by kernel_rfl
theorem fn28:B.P.funcs[28]? =some Tryz.f28:=by kernel_rfl
theorem ok28:callOk B.P 28=true:=by kernel_rfl
theorem fn29:B.P.funcs[29]? =some Tryz.f29:=by kernel_rfl
theorem ok29:callOk B.P 29=true:=by kernel_rfl
theorem fn30:B.P.funcs[30]? =some Tryz.f30:=by kernel_rfl
theorem ok30:callOk B.P 30=true:=by kernel_rfl
theorem fn31:B.P.funcs[31]? =some Tryz.f31:=by kernel_rfl
theorem ok31:callOk B.P 31=true:=by kernel_rfl
theorem fn32:B.P.funcs[32]? =some Tryz.f32:=by kernel_rfl
theorem ok32:callOk B.P 32=true:=by kernel_rfl
theorem fn33:B.P.funcs[33]? =some Tryz.f33:=by kernel_rfl
theorem ok33:callOk B.P 33=true:=by kernel_rfl
theorem fn34:B.P.funcs[34]? =some Tryz.f34:=by kernel_rfl
theorem fn35:B.P.funcs[35]? =some Tryz.f35:=by kernel_rfl
theorem ok35:callOk B.P 35=true:=by kernel_rfl
theorem fn36:B.P.funcs[36]? =some Tryz.f36:=by kernel_rfl
theorem ok36:callOk B.P 36=true:=by kernel_rfl
theorem fn37:B.P.funcs[37]? =some Tryz.f37:=by kernel_rfl
theorem ok37:callOk B.P 37=true:=by kernel_rfl
theorem fn38:B.P.funcs[38]? =some Tryz.f38:=by kernel_rfl
theorem ok38:callOk B.P 38=true:=by kernel_rfl
theorem fn39:B.P.funcs[39]? =some Tryz.f39:=by kernel_rfl
theorem ok39:callOk B.P 39=true:=by kernel_rfl
theorem fn40:B.P.funcs[40]? =some Tryz.f40:=by kernel_rfl
theorem ok40:callOk B.P 40=true:=by kernel_rfl
theorem fn41:B.P.funcs[41]? =some Tryz.f41:=by kernel_rfl
theorem ok41:callOk B.P 41=true:=by kernel_rfl
theorem fn42:B.P.funcs[42]? =some Tryz.f42:=by kernel_rfl
theorem ok42:callOk B.P 42=true:=by kernel_rfl
theorem fn44:B.P.funcs[44]? =some Tryz.f44:=by kernel_rfl
theorem ok44:callOk B.P 44=true:=by kernel_rfl
theorem fn45:B.P.funcs[45]? =some Tryz.f45:=by kernel_rfl
theorem ok45:callOk B.P 45=true:=by kernel_rfl
theorem fn47:B.P.funcs[47]? =some Tryz.f47:=by kernel_rfl
theorem ok47:callOk B.P 47=true:=by kernel_rfl
theorem fn48:B.P.funcs[48]? =some Tryz.f48:=by kernel_rfl
theorem ok48:callOk B.P 48=true:=by kernel_rfl
theorem fn49:B.P.funcs[49]? =some Tryz.f49:=by kernel_rfl
theorem ok49:callOk B.P 49=true:=by kernel_rfl
theorem ok50:callOk B.P 50=true:=by kernel_rfl
theorem fn51:B.P.funcs[51]? =some Tryz.f51:=by kernel_rfl
theorem ok51:callOk B.P 51=true:=by kernel_rfl
theorem fn52:B.P.funcs[52]? =some Tryz.f52:=by kernel_rfl
theorem ok52:callOk B.P 52=true:=by kernel_rfl
theorem fn53:B.P.funcs[53]? =some Tryz.f53:=by kernel_rfl
theorem ok53:callOk B.P 53=true:=by kernel_rfl
theorem fn54:B.P.funcs[54]? =some Tryz.f54:=by kernel_rfl
theorem ok54:callOk B.P 54=true:=by kernel_rfl
theorem fn55:B.P.funcs[55]? =some Tryz.f55:=by kernel_rfl
theorem ok55:callOk B.P 55=true:=by kernel_rfl
theorem fn57:B.P.funcs[57]? =some Tryz.f57:=by kernel_rfl
theorem ok57:callOk B.P 57=true:=by kernel_rfl
theorem fn58:B.P.funcs[58]? =some Tryz.f58:=by kernel_rfl
theorem ok58:callOk B.P 58=true:=by kernel_rfl
theorem fn59:B.P.funcs[59]? =some Tryz.f59:=by kernel_rfl
theorem ok59:callOk B.P 59=true:=by kernel_rfl
theorem fn60:B.P.funcs[60]? =some Tryz.f60:=by kernel_rfl
theorem ok60:callOk B.P 60=true:=by kernel_rfl
theorem fn61:B.P.funcs[61]? =some Tryz.f61:=by kernel_rfl
theorem ok61:callOk B.P 61=true:=by kernel_rfl
theorem fn62:B.P.funcs[62]? =some Tryz.f62:=by kernel_rfl
theorem ok62:callOk B.P 62=true:=by kernel_rfl
theorem fn63:B.P.funcs[63]? =some Tryz.f63:=by kernel_rfl
theorem ok63:callOk B.P 63=true:=by kernel_rfl
theorem fn64:B.P.funcs[64]? =some Tryz.f64:=by kernel_rfl
theorem ok64:callOk B.P 64=true:=by kernel_rfl
theorem fn65:B.P.funcs[65]? =some Tryz.f65:=by kernel_rfl
theorem ok65:callOk B.P 65=true:=by kernel_rfl
theorem fn66:B.P.funcs[66]? =some Tryz.f66:=by kernel_rfl
theorem ok66:callOk B.P 66=true:=by kernel_rfl
theorem fn67:B.P.funcs[67]? =some Tryz.f67:=by kernel_rfl
theorem ok67:callOk B.P 67=true:=by kernel_rfl
theorem fn68:B.P.funcs[68]? =some Tryz.f68:=by kernel_rfl
theorem ok68:callOk B.P 68=true:=by kernel_rfl
theorem fn69:B.P.funcs[69]? =some Tryz.f69:=by kernel_rfl
theorem ok69:callOk B.P 69=true:=by kernel_rfl
theorem fn70:B.P.funcs[70]? =some Tryz.f70:=by kernel_rfl
theorem ok70:callOk B.P 70=true:=by kernel_rfl
theorem fn74:B.P.funcs[74]? =some Tryz.f74:=by kernel_rfl
theorem ok74:callOk B.P 74=true:=by kernel_rfl
theorem fn75:B.P.funcs[75]? =some Tryz.f75:=by kernel_rfl
theorem ok75:callOk B.P 75=true:=by kernel_rfl
theorem fn76:B.P.funcs[76]? =some Tryz.f76:=by kernel_rfl
theorem fn77:B.P.funcs[77]? =some Tryz.f77:=by kernel_rfl
theorem ok77:callOk B.P 77=true:=by kernel_rfl
theorem fn81:B.P.funcs[81]? =some Tryz.f81:=by kernel_rfl
theorem ok81:callOk B.P 81=true:=by kernel_rfl
theorem ok90:callOk B.P 90=true:=by kernel_rfl
theorem fn91:B.P.funcs[91]? =some Tryz.f91:=by kernel_rfl
theorem ok91:callOk B.P 91=true:=by kernel_rfl
theorem fn92:B.P.funcs[92]? =some Tryz.f92:=by kernel_rfl
theorem ok92:callOk B.P 92=true:=by kernel_rfl
theorem fn96:B.P.funcs[96]? =some Tryz.f96:=by kernel_rfl
theorem ok96:callOk B.P 96=true:=by kernel_rfl
theorem fn97:B.P.funcs[97]? =some Tryz.f97:=by kernel_rfl
theorem ok97:callOk B.P 97=true:=by kernel_rfl
theorem fn98:B.P.funcs[98]? =some Tryz.f98:=by kernel_rfl
theorem ok98:callOk B.P 98=true:=by kernel_rfl
theorem fn99:B.P.funcs[99]? =some Tryz.f99:=by kernel_rfl
theorem ok99:callOk B.P 99=true:=by kernel_rfl
theorem fn101:B.P.funcs[101]? =some Tryz.f101:=by kernel_rfl
theorem ok101:callOk B.P 101=true:=by kernel_rfl
theorem fn102:B.P.funcs[102]? =some Tryz.f102:=by kernel_rfl
theorem ok102:callOk B.P 102=true:=by kernel_rfl
theorem fn103:B.P.funcs[103]? =some Tryz.f103:=by kernel_rfl
theorem ok103:callOk B.P 103=true:=by kernel_rfl
theorem fn104:B.P.funcs[104]? =some Tryz.f104:=by kernel_rfl
theorem ok104:callOk B.P 104=true:=by kernel_rfl
theorem fn105:B.P.funcs[105]? =some Tryz.f105:=by kernel_rfl
theorem ok105:callOk B.P 105=true:=by kernel_rfl
theorem fn116:B.P.funcs[116]? =some Tryz.f116:=by kernel_rfl
theorem ok116:callOk B.P 116=true:=by kernel_rfl
theorem fn125:B.P.funcs[125]? =some Tryz.f125:=by kernel_rfl
theorem ok125:callOk B.P 125=true:=by kernel_rfl
theorem fn126:B.P.funcs[126]? =some Tryz.f126:=by kernel_rfl
theorem ok126:callOk B.P 126=true:=by kernel_rfl
theorem fn138:B.P.funcs[138]? =some Tryz.f138:=by kernel_rfl
theorem ok138:callOk B.P 138=true:=by kernel_rfl
theorem fn139:B.P.funcs[139]? =some Tryz.f139:=by kernel_rfl
theorem ok139:callOk B.P 139=true:=by kernel_rfl
theorem fn140:B.P.funcs[140]? =some Tryz.f140:=by kernel_rfl
theorem ok140:callOk B.P 140=true:=by kernel_rfl
theorem fn141:B.P.funcs[141]? =some Tryz.f141:=by kernel_rfl
theorem ok141:callOk B.P 141=true:=by kernel_rfl
theorem fn142:B.P.funcs[142]? =some Tryz.f142:=by kernel_rfl
theorem ok142:callOk B.P 142=true:=by kernel_rfl
theorem fn150:B.P.funcs[150]? =some Tryz.f150:=by kernel_rfl
theorem ok150:callOk B.P 150=true:=by kernel_rfl
theorem fn151:B.P.funcs[151]? =some Tryz.f151:=by kernel_rfl
theorem ok151:callOk B.P 151=true:=by kernel_rfl
theorem fn152:B.P.funcs[152]? =some Tryz.f152:=by kernel_rfl
theorem ok152:callOk B.P 152=true:=by kernel_rfl
theorem fn158:B.P.funcs[158]? =some Tryz.f158:=by kernel_rfl
theorem ok158:callOk B.P 158=true:=by kernel_rfl
theorem fn159:B.P.funcs[159]? =some Tryz.f159:=by kernel_rfl
theorem ok159:callOk B.P 159=true:=by kernel_rfl
theorem fn160:B.P.funcs[160]? =some Tryz.f160:=by kernel_rfl
theorem ok160:callOk B.P 160=true:=by kernel_rfl
end Go.Proofs.YtnbdpcpgckfeeaaGreatDoor
