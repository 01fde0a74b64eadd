import Derived.Test.YtmdodfnealkpdaaDoorWf1zz
import Derived.Laws.Strings
import Derived.Test.YtmdodfnealkpdaaDoorW9zz
import Derived.Test.YtmdodfnealkpdaaDoorChecked
/-
  The evaluator over any input: strings.
-/
namespace Go.Sy
open Go Go.Ev
/-- A string of bytes. -/
def strB (A : List Nat) : ByteArray := ⟨⟨A.map UInt8.ofNat⟩⟩
theorem strB_inj {A D : List Nat} (hA : ∀ x ∈ A, x < 256) (hD : ∀ x ∈ D, x < 256) (h : strB A = strB D) : A = D := by
  have h1 : A.map UInt8.ofNat = D.map UInt8.ofNat := by injection h with h; injection h
  induction A generalizing D with
  | nil => cases D with
    | nil => rfl
    | cons => cases h1
  | cons a A ih => cases D with
    | nil => cases h1
    | cons d D =>
      simp only [List.map_cons, List.cons.injEq] at h1
      have e : a = d := by
        have := congrArg UInt8.toNat h1.1
        rw [UInt8.toNat_ofNat', UInt8.toNat_ofNat'] at this
        have ha := hA a List.mem_cons_self
        have hd := hD d List.mem_cons_self
        rwa [Nat.mod_eq_of_lt ha, Nat.mod_eq_of_lt hd] at this
      rw [e, ih (fun x hx => hA x (List.mem_cons_of_mem _ hx)) (fun x hx => hD x (List.mem_cons_of_mem _ hx)) (by unfold strB; rw [h1.2]) h1.2]
theorem bytesOf_map : ∀ A : List Nat, bytesOf (A.map nB) = some (A.map UInt8.ofNat)
  | [] => rfl
  | a :: A => by
    show (match bytesOf (A.map nB) with | some bs => some (UInt8.ofNat a :: bs) | none => none) = _
    rw [bytesOf_map A]; rfl
section
variable {X : Fx} {env : Env} {s : St}
theorem Xv.b2s {src dst t0 n e t1 n1 t2 n2 : Nat} {z z1 z2 : Option (List Value)} {x : Operand} {q : Option Addr} {c : Nat} {A : List Nat} (hs : tk X.B.T src = some ⟨t0, n, .sl e, z⟩) (he : tk X.B.T e = some ⟨t1, n1, .it .u8, z1⟩) (hd : tk X.B.T dst = some ⟨t2, n2, .str, z2⟩) (hx : ev env x = some (.slice q A.length c)) (hA : Bs s q A) : Xv X (.convert src dst x) env s (.string (strB A)) s := fun tm hf => by
  show xConv X.P src dst (opd tm x) s = _
  rw [ev_opd hf hx]
  have h1 : X.P.underlying src = some (.slice e) := X.B.un hs
  have h2 : X.P.underlying dst = some .string := X.B.un hd
  have h3 : X.P.underlying e = some (.int .u8) := X.B.un he
  unfold xConv
  simp only [h1, h2]
  unfold toStr
  simp only [h3, isU8, cond, hA.cells, bytesOf_map]
  rfl
theorem beq_str (a b : ByteArray) : (a.toList == b.toList) = decide (a = b) := by
  rw [ByteArray.toList_eq, ByteArray.toList_eq]
  obtain ⟨⟨x⟩⟩ := a
  obtain ⟨⟨y⟩⟩ := b
  by_cases h : x = y
  · subst h; rw [decide_eq_true rfl]; exact beq_self_eq_true _
  · rw [decide_eq_false fun e => h (by injection e with e; injection e)]; exact beq_eq_false_iff_ne.2 h
theorem Xv.seq {t t' : TypeId} {x y : Operand} {a b : ByteArray} (hx : ev env x = some (.string a)) (hy : ev env y = some (.string b)) : Xv X (.binOp .eql t x y t') env s (.bool (decide (a = b))) s := fun tm hf => by
  show xBin X.P .eql t x y (opd tm x) (opd tm y) s = _
  rw [ev_opd hf hx, ev_opd hf hy]
  show okB (a.toList == b.toList) s = _
  rw [beq_str]; cases decide (a = b) <;> rfl
theorem Xv.sne {t t' : TypeId} {x y : Operand} {a b : ByteArray} (hx : ev env x = some (.string a)) (hy : ev env y = some (.string b)) : Xv X (.binOp .neq t x y t') env s (.bool (decide (a ≠ b))) s := fun tm hf => by
  show xBin X.P .neq t x y (opd tm x) (opd tm y) s = _
  rw [ev_opd hf hx, ev_opd hf hy]
  show okB (!(a.toList == b.toList)) s = _
  rw [beq_str, ← decide_not]; cases decide (a ≠ b) <;> rfl
theorem Xv.lenT {x : Operand} {t n t0 : Nat} {z : Option (List Value)} {a : ByteArray} (ht : tk X.B.T t = some ⟨t0, n, .str, z⟩) (hx : ev env x = some (.string a)) : Xv X (.call ⟨.builtin .len, #[x], #[t]⟩) env s (nI a.size) s := fun tm hf => by
  show xLen X.P [t] (opds tm [x]) s = _
  rw [evs_opds hf (xs := [x]) (vs := [.string a]) (by unfold evs; rw [hx]; rfl)]
  have hu : X.P.underlying t = some .string := X.B.un ht
  unfold xLen headT
  simp only [hu]
  unfold okN; rw [fN_eq]
end
end Go.Sy
/-
  The seat's types, as far as the functions ask.
-/
namespace Go.Proofs.YtmdodfnealkpdaaDoor
open Go Go.Ev Go.Sy
set_option maxRecDepth 100000
def T : List TE := [⟨2, 1, .it .i64, some [.int .i64 0]⟩,
  ⟨23, 32, .ar 32 5, some [.int .u8 0, .int .u8 0, .int .u8 0, .int .u8 0, .int .u8 0, .int .u8 0, .int .u8 0, .int .u8 0, .int .u8 0, .int .u8 0, .int .u8 0, .int .u8 0, .int .u8 0, .int .u8 0, .int .u8 0, .int .u8 0, .int .u8 0, .int .u8 0, .int .u8 0, .int .u8 0, .int .u8 0, .int .u8 0, .int .u8 0, .int .u8 0, .int .u8 0, .int .u8 0, .int .u8 0, .int .u8 0, .int .u8 0, .int .u8 0, .int .u8 0, .int .u8 0]⟩,
  ⟨5, 1, .it .u8, some [.int .u8 0]⟩,
  ⟨25, 66, .st [(0, 2), (1, 2), (2, 23), (34, 23)], some [.int .i64 0, .int .i64 0, .int .u8 0, .int .u8 0, .int .u8 0, .int .u8 0, .int .u8 0, .int .u8 0, .int .u8 0, .int .u8 0, .int .u8 0, .int .u8 0, .int .u8 0, .int .u8 0, .int .u8 0, .int .u8 0, .int .u8 0, .int .u8 0, .int .u8 0, .int .u8 0, .int .u8 0, .int .u8 0, .int .u8 0, .int .u8 0, .int .u8 0, .int .u8 0, .int .u8 0, .int .u8 0, .int .u8 0, .int .u8 0, .int .u8 0, .int .u8 0, .int .u8 0, .int .u8 0, .int .u8 0, .int .u8 0, .int .u8 0, .int .u8 0, .int .u8 0, .int .u8 0, .int .u8 0, .int .u8 0, .int .u8 0, .int .u8 0, .int .u8 0, .int .u8 0, .int .u8 0, .int .u8 0, .int .u8 0, .int .u8 0, .int .u8 0, .int .u8 0, .int .u8 0, .int .u8 0, .int .u8 0, .int .u8 0, .int .u8 0, .int .u8 0, .int .u8 0, .int .u8 0, .int .u8 0, .int .u8 0, .int .u8 0, .int .u8 0, .int .u8 0, .int .u8 0]⟩,
  ⟨28, 68, .st [(0, 3), (1, 2), (2, 2), (3, 23), (35, 23), (67, 26)], some [.int .i64 0, .int .i64 0, .int .i64 0, .int .u8 0, .int .u8 0, .int .u8 0, .int .u8 0, .int .u8 0, .int .u8 0, .int .u8 0, .int .u8 0, .int .u8 0, .int .u8 0, .int .u8 0, .int .u8 0, .int .u8 0, .int .u8 0, .int .u8 0, .int .u8 0, .int .u8 0, .int .u8 0, .int .u8 0, .int .u8 0, .int .u8 0, .int .u8 0, .int .u8 0, .int .u8 0, .int .u8 0, .int .u8 0, .int .u8 0, .int .u8 0, .int .u8 0, .int .u8 0, .int .u8 0, .int .u8 0, .int .u8 0, .int .u8 0, .int .u8 0, .int .u8 0, .int .u8 0, .int .u8 0, .int .u8 0, .int .u8 0, .int .u8 0, .int .u8 0, .int .u8 0, .int .u8 0, .int .u8 0, .int .u8 0, .int .u8 0, .int .u8 0, .int .u8 0, .int .u8 0, .int .u8 0, .int .u8 0, .int .u8 0, .int .u8 0, .int .u8 0, .int .u8 0, .int .u8 0, .int .u8 0, .int .u8 0, .int .u8 0, .int .u8 0, .int .u8 0, .int .u8 0, .int .u8 0, .slice none 0 0]⟩,
  ⟨3, 1, .it .i64, some [.int .i64 0]⟩,
  ⟨26, 1, .sl 54, some [.slice none 0 0]⟩,
  ⟨54, 3, .st [(0, 52), (1, 52), (2, 4)], some [.slice none 0 0, .slice none 0 0, .bool false]⟩,
  ⟨52, 1, .sl 5, some [.slice none 0 0]⟩,
  ⟨4, 1, .bl, some [.bool false]⟩,
  ⟨31, 4, .st [(0, 3), (1, 2), (2, 3), (3, 4)], some [.int .i64 0, .int .i64 0, .int .i64 0, .bool false]⟩,
  ⟨35, 8, .ar 2 31, some [.int .i64 0, .int .i64 0, .int .i64 0, .bool false, .int .i64 0, .int .i64 0, .int .i64 0, .bool false]⟩]
theorem T_ok : T.all (teB Tryd.prog) = true := by kernel_rfl
def V : List (Nat × Nat) := [(2, 8), (23, 32), (5, 1), (25, 80), (28, 112), (3, 8), (26, 24), (54, 56), (52, 24), (4, 1), (31, 32), (35, 64)]
theorem V_ok : (V.all fun p => isN (bytesOfT Tryd.prog p.1) p.2) = true := by kernel_rfl
noncomputable def B : Bx := ⟨Tryd.prog, fun _ => none, T, T_ok, V, V_ok⟩
theorem fn3 : B.P.funcs[3]? = some Tryd.f3 := by kernel_rfl
theorem ok3 : callOk B.P 3 = true := by kernel_rfl
theorem fn4 : B.P.funcs[4]? = some Tryd.f4 := by kernel_rfl
theorem ok4 : callOk B.P 4 = true := by kernel_rfl
theorem fn5 : B.P.funcs[5]? = some Tryd.f5 := by kernel_rfl
theorem ok5 : callOk B.P 5 = true := by kernel_rfl
theorem fn6 : B.P.funcs[6]? = some Tryd.f6 := by kernel_rfl
theorem ok6 : callOk B.P 6 = true := by kernel_rfl
theorem fn7 : B.P.funcs[7]? = some Tryd.f7 := by kernel_rfl
theorem ok7 : callOk B.P 7 = true := by kernel_rfl
end Go.Proofs.YtmdodfnealkpdaaDoor
