import Derived.Test.YtdigimobicfabaaGreatDoorHazz
import Derived.Test.YtdigimobicfabaaGreatDoorChecked
import Derived.WalkKit
import Derived.LaidEql
import Derived.Stop.Asserts
import Derived.RowKitTokens
/-
  errors.As at a struct of one number: the machine's own walk, and the hook. (6: how many package-level variables; 608: how many types, and a hundred.)
-/
namespace Go.Proofs.YtdigimobicfabaaGreatDoor
open Go Go.Ev Go.RowKit Go.Extern.Stop Go.Stop Go.Extern
set_option maxRecDepth 100000
theorem valueOfP (t : Addr) (w : World) : (ReflectliteValue.unpack (.iface 179 (.pointer (some t)))).run Tryz.prog w
    = .ok (.agg #[.pointer (some ⟨6, 179, none⟩), .pointer (some ⟨w.heap.size, 0, none⟩), .int .u64 150]) (w.alloc (.cells #[.pointer (some t)] 179)) := by kernel_rfl
theorem typeP (a : Addr) (w : World) : (ReflectliteValue.methodAny (ReflectliteValue.valueError "reflectlite.Value.Type" 0) (fun t _ _ _ => ReflectliteType.toType t) #[.agg #[.pointer (some ⟨6, 179, none⟩), .pointer (some a), .int .u64 150]]).run Tryz.prog w
    = .ok (.iface 308 (.agg #[.pointer (some ⟨6, 179, none⟩)])) w := by kernel_rfl
theorem methodKind (h : Value) (w : World) : (Go.method 608 308 (.agg #[h]) "Kind").run Tryz.prog w = .ok (367, h) w := by kernel_rfl
theorem kindP (w : World) : ((ReflectliteType.abiMethod fun t => (fun a : Nat => Value.int IntKind.u8 (a : Int)) <$> Rtype.kind t) #[.pointer (some ⟨6, 179, none⟩)]).run Tryz.prog w = .ok (.int .u8 22) w := by kernel_rfl
theorem kindF (w : World) : ((ReflectliteType.abiMethod fun t => (fun a : Nat => Value.int IntKind.u8 (a : Int)) <$> Rtype.kind t) #[.pointer (some ⟨6, 164, none⟩)]).run Tryz.prog w = .ok (.int .u8 25) w := by kernel_rfl
theorem partsP (a : Addr) (w : World) : (ReflectliteValue.parts (.agg #[.pointer (some ⟨6, 179, none⟩), .pointer (some a), .int .u64 150])).run Tryz.prog w = .ok (some (179, a, 150)) w := by kernel_rfl
theorem isNilP (a p : Addr) (W : World) (ha : W.cell? a = some (.pointer (some p))) :
    (ReflectliteValue.method (ReflectliteValue.valueError "reflectlite.Value.IsNil" 0) ReflectliteValue.isNil #[.agg #[.pointer (some ⟨6, 179, none⟩), .pointer (some a), .int .u64 150]]).run Tryz.prog W = .ok (.bool false) W := by
  rw [show ∀ z f v, ReflectliteValue.method z f #[v] = (ReflectliteValue.parts v >>= _) from fun _ _ _ => rfl]
  simp only [Sem.run_bind, partsP, Result.andThen]
  simp [ReflectliteValue.isNil, loadVar, isAgg, underlying, Tryz.underlying179, ha, Result.andThen]
theorem methodElem (h : Value) (w : World) : (Go.method 608 308 (.agg #[h]) "Elem").run Tryz.prog w = .ok (380, .agg #[h]) w := by kernel_rfl
theorem methodImplements (h : Value) (w : World) : (Go.method 608 308 (.agg #[h]) "Implements").run Tryz.prog w = .ok (381, .agg #[h]) w := by kernel_rfl
theorem methodAssignableTo (h : Value) (w : World) : (Go.method 608 308 (.agg #[h]) "AssignableTo").run Tryz.prog w = .ok (378, .agg #[h]) w := by kernel_rfl
theorem elemP (w : World) : (ReflectliteType.method ReflectliteType.elem #[.agg #[.pointer (some ⟨6, 179, none⟩)]]).run Tryz.prog w = .ok (.iface 308 (.agg #[.pointer (some ⟨6, 164, none⟩)])) w := by kernel_rfl
theorem implementsF (w : World) : (ReflectliteType.relation "Implements" ReflectliteType.implements_ #[.agg #[.pointer (some ⟨6, 164, none⟩)], .iface 308 (.agg #[.pointer (some ⟨6, 99, none⟩)])]).run Tryz.prog w = .ok (.bool true) w := by kernel_rfl
theorem typeOfF (v : Value) (w : World) : (ReflectliteType.typeOf #[.iface 164 v]).run Tryz.prog w = .ok (.iface 308 (.agg #[.pointer (some ⟨6, 164, none⟩)])) w := by kernel_rfl
theorem assignableF (w : World) : (ReflectliteType.relation "AssignableTo" ReflectliteType.assignableTo #[.agg #[.pointer (some ⟨6, 164, none⟩)], .iface 308 (.agg #[.pointer (some ⟨6, 164, none⟩)])]).run Tryz.prog w = .ok (.bool true) w := by kernel_rfl
theorem valueOfF (k : IntKind) (n : Int) (w : World) : (ReflectliteValue.unpack (.iface 164 (.agg #[.int k n]))).run Tryz.prog w
    = .ok (.agg #[.pointer (some ⟨6, 164, none⟩), .pointer (some ⟨w.heap.size, 0, none⟩), .int .u64 153]) (w.alloc (.cells #[.int k n] 164)) := by kernel_rfl
theorem elemOfP (w : World) : (Rtype.elem? 179).run Tryz.prog w = .ok (some 164) w := by kernel_rfl
theorem mkF (p : Addr) (w : World) : (ReflectliteValue.mk 164 p ReflectliteValue.flagAddr).run Tryz.prog w = .ok (.agg #[.pointer (some ⟨6, 164, none⟩), .pointer (some p), .int .u64 409]) w := by kernel_rfl
theorem elemVP (a p : Addr) (W : World) (ha : W.cell? a = some (.pointer (some p))) :
    (ReflectliteValue.method (ReflectliteValue.valueError "reflectlite.Value.Elem" 0) ReflectliteValue.elem #[.agg #[.pointer (some ⟨6, 179, none⟩), .pointer (some a), .int .u64 150]]).run Tryz.prog W
      = .ok (.agg #[.pointer (some ⟨6, 164, none⟩), .pointer (some p), .int .u64 409]) W := by
  rw [show ∀ z f v, ReflectliteValue.method z f #[v] = (ReflectliteValue.parts v >>= _) from fun _ _ _ => rfl]
  simp only [Sem.run_bind, partsP, Result.andThen]
  simp [ReflectliteValue.elem, loadVar, isAgg, underlying, Tryz.underlying179, ha, Result.andThen, elemOfP, mkF]
theorem partsFa (a : Addr) (w : World) : (ReflectliteValue.parts (.agg #[.pointer (some ⟨6, 164, none⟩), .pointer (some a), .int .u64 409])).run Tryz.prog w = .ok (some (164, a, 409)) w := by kernel_rfl
theorem partsF (a : Addr) (w : World) : (ReflectliteValue.parts (.agg #[.pointer (some ⟨6, 164, none⟩), .pointer (some a), .int .u64 153])).run Tryz.prog w = .ok (some (164, a, 153)) w := by kernel_rfl
theorem directF (w : World) : (Rtype.directlyAssignable 164 164).run Tryz.prog w = .ok true w := by kernel_rfl
theorem sizeF (w : World) : (sizeOf 164).run Tryz.prog w = .ok 1 w := by kernel_rfl
theorem loadF (b : Addr) (k : IntKind) (n : Int) (W : World) (hb : W.cell? b = some (.int k n)) (hs : b.spot = none) : (loadVar 164 b).run Tryz.prog W = .ok (.agg #[.int k n]) W := by
  have h0 : b.add 0 = b := by obtain ⟨x, y, z⟩ := b; cases hs; rfl
  simp [loadVar, isAgg, underlying, Tryz.underlying164, Result.andThen, loadCells, loadCellsFrom, h0, hb]
theorem setF (ta b : Addr) (k : IntKind) (n : Int) (W W' : World) (hb : W.cell? b = some (.int k n)) (hs : b.spot = none) (hst : (storeCells ta [.int k n]).run Tryz.prog W = .ok () W') :
    (ReflectliteValue.set #[.agg #[.pointer (some ⟨6, 164, none⟩), .pointer (some ta), .int .u64 409], .agg #[.pointer (some ⟨6, 164, none⟩), .pointer (some b), .int .u64 153]]).run Tryz.prog W
      = .ok (.tuple #[]) W' := by
  rw [show ∀ v x, ReflectliteValue.set #[v, x] = (ReflectliteValue.parts v >>= fun _ => ReflectliteValue.parts x >>= _) from fun _ _ => rfl]
  simp only [Sem.run_bind, partsFa, partsF, Result.andThen]
  simp [ReflectliteValue.flagAddr, loadF b k n W hb hs, Result.andThen, directF, storeVar, Value.cells, hst]
set_option maxHeartbeats 4000000 in
theorem as_hit (k : IntKind) (n : Int) (t : Addr) (w w' : World) (hg : w.cell? ⟨0, 0, none⟩ = some (.iface 308 (.agg #[.pointer (some ⟨6, 99, none⟩)])))
    (hst : (storeCells t [.int k n]).run Tryz.prog ((((w.alloc (.cells #[.pointer (some t)] 179)).alloc (.cells #[.pointer (some ⟨6, 179, none⟩), .pointer (some ⟨w.heap.size, 0, none⟩), .int .u64 150] 249)).alloc (.cells #[.pointer (some ⟨6, 179, none⟩), .pointer (some ⟨w.heap.size, 0, none⟩), .int .u64 150] 249)).alloc (.cells #[.int k n] 164)) = .ok () w') :
    Calls Tryz.prog 78 #[.iface 164 (.agg #[.int k n]), .iface 179 (.pointer (some t))] w fun ev w'' => ev = .returned (.bool true) ∧ w'' = w' := by
  have h6 := @run_callFunc_extern Tryz.prog 124 _ (fun args => ReflectliteValue.unpack (args.getD 0 (.tuple #[]))) Tryz.func124 (by kernel_rfl) (by kernel_rfl) (by kernel_rfl) (by kernel_rfl)
  have h7 := @run_callFunc_extern Tryz.prog 125 _ (ReflectliteValue.methodAny (ReflectliteValue.valueError "reflectlite.Value.Type" 0) (fun t _ _ _ => ReflectliteType.toType t)) Tryz.func125 (by kernel_rfl) (by kernel_rfl) (by kernel_rfl) (by kernel_rfl)
  have h8 := @run_callFunc_extern Tryz.prog 126 _ (ReflectliteValue.method (ReflectliteValue.valueError "reflectlite.Value.IsNil" 0) ReflectliteValue.isNil) Tryz.func126 (by kernel_rfl) (by kernel_rfl) (by kernel_rfl) (by kernel_rfl)
  have h27 := @run_callFunc_extern Tryz.prog 367 _ (ReflectliteType.abiMethod fun t => do pure (.int .u8 (← Rtype.kind t))) Tryz.func367 (by kernel_rfl) (by kernel_rfl) (by kernel_rfl) (by kernel_rfl)
  have h37 := @run_callFunc_extern Tryz.prog 380 _ (ReflectliteType.method ReflectliteType.elem) Tryz.func380 (by kernel_rfl) (by kernel_rfl) (by kernel_rfl) (by kernel_rfl)
  have h38 := @run_callFunc_extern Tryz.prog 381 _ (ReflectliteType.relation "Implements" ReflectliteType.implements_) Tryz.func381 (by kernel_rfl) (by kernel_rfl) (by kernel_rfl) (by kernel_rfl)
  have h10 := @run_callFunc_extern Tryz.prog 168 _ ReflectliteType.typeOf Tryz.func168 (by kernel_rfl) (by kernel_rfl) (by kernel_rfl) (by kernel_rfl)
  have h35 := @run_callFunc_extern Tryz.prog 378 _ (ReflectliteType.relation "AssignableTo" ReflectliteType.assignableTo) Tryz.func378 (by kernel_rfl) (by kernel_rfl) (by kernel_rfl) (by kernel_rfl)
  have h11 := @run_callFunc_extern Tryz.prog 169 _ (ReflectliteValue.method (ReflectliteValue.valueError "reflectlite.Value.Elem" 0) ReflectliteValue.elem) Tryz.func169 (by kernel_rfl) (by kernel_rfl) (by kernel_rfl) (by kernel_rfl)
  have h12 := @run_callFunc_extern Tryz.prog 170 _ ReflectliteValue.set Tryz.func170 (by kernel_rfl) (by kernel_rfl) (by kernel_rfl) (by kernel_rfl)
  have tO := typeOfF
  have mA := methodAssignableTo
  have aF := assignableF
  have vF := valueOfF
  have f6 := valueOfP
  have f7 := typeP
  have mK := methodKind
  have mE := methodElem
  have mI := methodImplements
  have k27 := kindP
  have k25 := kindF
  have e27 := elemP
  have i25 := implementsF
  have n8 := isNilP ⟨w.heap.size, 0, none⟩ t ((w.alloc (.cells #[.pointer (some t)] 179)).alloc (.cells #[.pointer (some ⟨6, 179, none⟩), .pointer (some ⟨w.heap.size, 0, none⟩), .int .u64 150] 249)) (by simp)
  have hlt : 0 < w.heap.size := World.block_lt_of_cell? _ _ hg
  have hg2 : ((w.alloc (.cells #[.pointer (some t)] 179)).alloc (.cells #[.pointer (some ⟨6, 179, none⟩), .pointer (some ⟨w.heap.size, 0, none⟩), .int .u64 150] 249)).cell? ⟨0, 0, none⟩ = some (.iface 308 (.agg #[.pointer (some ⟨6, 99, none⟩)])) := by
    rw [World.cell?_alloc_lt _ _ ⟨0, 0, none⟩ (by simp), World.cell?_alloc_lt _ _ ⟨0, 0, none⟩ hlt]; exact hg
  have el := elemVP ⟨w.heap.size, 0, none⟩ t (((w.alloc (.cells #[.pointer (some t)] 179)).alloc (.cells #[.pointer (some ⟨6, 179, none⟩), .pointer (some ⟨w.heap.size, 0, none⟩), .int .u64 150] 249)).alloc (.cells #[.pointer (some ⟨6, 179, none⟩), .pointer (some ⟨w.heap.size, 0, none⟩), .int .u64 150] 249)) (by rw [World.cell?_alloc_lt _ _ ⟨w.heap.size, 0, none⟩ (by simp; omega)]; simp)
  have st := setF t ⟨w.heap.size + 1 + 1 + 1, 0, none⟩ k n _ w' (by rw [World.cell?_alloc_at _ _ _ _ (by simp)]; rfl) rfl hst
  go_enter Tryz.func78, Tryz.ntmps78
  go_wp2
  refine wp_loop_rounds 1 ?_
  rw [rounds_succ]
  go_wp2
  go_ret
  exact ⟨rfl, rfl⟩
end Go.Proofs.YtdigimobicfabaaGreatDoor
