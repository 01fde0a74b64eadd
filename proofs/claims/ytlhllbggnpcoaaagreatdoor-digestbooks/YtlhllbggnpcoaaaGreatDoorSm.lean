import Derived.Test.YtlhllbggnpcoaaaGreatDoorSumM
import Derived.DeepKeys
/-
  Two hashes that are one.
-/
namespace Go.Proofs.YtlhllbggnpcoaaaGreatDoor
open Go.BigFrame

theorem mapM_some {α β : Type} (f : α → Option β) (g : α → β) : ∀ l : List α, (∀ x ∈ l, f x = some (g x)) → l.mapM f = some (l.map g)
  | [], _ => rfl
  | x :: l, h => by
    rw [List.mapM_cons, h x (by simp), mapM_some f g l (fun y hy => h y (by simp [hy]))]
    rfl
theorem lits26 (cs : Array Value) (f : Nat → Nat) (hs : cs.size = 32) (hc : ∀ i, i < 32 → cs[i]? = some (.int .u8 (f i))) (hf : ∀ i, f i < 256) :
    Tryz.prog.keyLits 2 31 cs.toList = some (((List.range 32).map (fun i => [Lit.int .u8 (f i)])).flatten) := by
  have c26 : Tryz.prog.cellsOf 31 = 32 := by kernel_rfl
  have c5 : Tryz.prog.cellsOf 5 = 1 := by kernel_rfl
  unfold Program.keyLits
  rw [Tryz.underlying31]
  simp only [Array.length_toList, hs, c26, if_true]
  rw [mapM_some _ (fun i => [Lit.int .u8 (f i)]) (List.range 32) ?_]
  · rfl
  · intro i hi
    have hi' : i < 32 := by simpa using hi
    have e : (cs.toList.drop (i * Tryz.prog.cellsOf 5)).take (Tryz.prog.cellsOf 5) = [.int .u8 (f i)] := by
      rw [c5, Nat.mul_one]
      have h2 := hc i hi'
      rw [Array.getElem?_eq_getElem (by omega)] at h2
      rw [List.drop_eq_getElem_cons (by simp; omega)]
      simp only [List.take_succ_cons, List.take_zero, Array.getElem_toList]
      rw [Option.some.inj h2]
    rw [e]
    unfold Program.keyLits
    rw [Tryz.underlying5]
    have wf : (Lit.int .u8 (f i)).wf = true := by
      have := hf i
      simp [Lit.wf, IntKind.min, IntKind.max, IntKind.bits, IntKind.signed]
      omega
    simp only [wf, and_self, if_true]
theorem eq_hash (w : World) (cs : Array Value) (f : Nat → Nat) (hs : cs.size = 32) (hc : ∀ i, i < 32 → cs[i]? = some (.int .u8 (f i))) (hf : ∀ i, f i < 256) :
    (Op.equalIn 10000 31 (.agg cs) (.agg cs)).run Tryz.prog w = .ok true w := by
  have K : Tryz.prog.keyTypeAt 2 31 = true := by kernel_rfl
  have c26 : Tryz.prog.cellsOf 31 = 32 := by kernel_rfl
  have fm : (Value.agg cs).formed Tryz.prog 31 = true := by
    unfold Value.formed
    rw [Tryz.underlying31, c26]
    show (cs.size == 32) = true
    rw [hs]
    rfl
  have kl := lits26 cs f hs hc hf
  obtain ⟨r, hr, hiff⟩ := run_equalIn_deep 9998 2 31 K w 2 2 (.agg cs) (.agg cs) _ _ fm fm kl kl
  rw [hiff.2 rfl] at hr
  exact hr
theorem eq_hashA (w : World) (s : W8) : (Op.equalIn 10000 31 (.agg (hashA s)) (.agg (hashA s))).run Tryz.prog w = .ok true w :=
  eq_hash w _ (hb s) (hashA_size s) (hashA_cell s) (fun _ => Nat.mod_lt _ (by decide))
theorem eq_Z32 (w : World) : (Op.equalIn 10000 31 (.agg Z32) (.agg Z32)).run Tryz.prog w = .ok true w :=
  eq_hash w _ (fun _ => 0) rfl (fun i hi => by rw [Z32_rep, Array.getElem?_replicate, if_pos hi]; rfl) (fun _ => by decide)

section
variable {P : Program}
theorem wpList_load_cells_g {ops : Array Oper} {rest : List Oper} {o : Oper} {a : Act} {w : World} {Q : Exit → Act → World → Prop} (hgd : Region.wanted o (yielded ops a.tmps) = true) (ty : TypeId) (x : Operand) (ho : o.op = .load ty x)
    (g : Nat) (hx : a.eval x = .pointer (some ⟨g, 0, none⟩)) (cs : Array Value) (d : TypeDesc) (hc : ∀ j, j < cs.size → w.cell? ⟨g, j, none⟩ = cs[j]?)
    (hu : P.underlying ty = some d) (hd : (match d with | .struct _ | .array _ _ => true | _ => false) = true) (hi : (P.info? ty).map (·.size) = some cs.size)
    (h : wpList P ops Q rest (a.put o.dst (.agg cs)) w) : wpList P ops Q (o :: rest) a w := by
  refine wpList_want hgd fun K hK => ?_
  unfold Oper.wp execOp
  simp only [ho, hx, Instr.loadAt, Instr.sureAddr, Sem.run_bind, Sem.run_pure, Result.andThen_ok, run_loadVar_cells w g ty cs d hc hu hd hi]
  exact hK _ _ h
end
end Go.Proofs.YtlhllbggnpcoaaaGreatDoor

/-
  The sum of given bytes, reckoned by the kernel.
-/
namespace Go.Proofs.YtlhllbggnpcoaaaGreatDoor

/-- n is reckoned first -/
def now {α : Type} (n : Nat) (k : Nat → α) : α := match n with | 0 => k 0 | m + 1 => k (m + 1)
theorem now_eq {α : Type} (n : Nat) (k : Nat → α) : now n k = k n := by cases n <;> rfl

/-- a round: the words, the next sixteen of the schedule -/
def eround (k a b c d e f g h w : Nat) {α : Type} (r : Nat → Nat → α) : α :=
  now (((((h + big1 e) % M + pick e f g) % M + k) % M + w) % M) fun x => now ((x + (big0 a + most a b c) % M) % M) fun a' => now ((d + x) % M) fun e' => r a' e'
/-- the rest of the rounds: W holds the next sixteen words -/
def erounds : List Nat → List Nat → Nat → Nat → Nat → Nat → Nat → Nat → Nat → Nat → W8
  | k :: ks, w0 :: w1 :: w2 :: w3 :: w4 :: w5 :: w6 :: w7 :: w8 :: w9 :: w10 :: w11 :: w12 :: w13 :: w14 :: w15 :: r, a, b, c, d, e, f, g, h =>
    now (wnew w14 w9 w1 w0) fun w16 =>
      eround k a b c d e f g h w0 fun a' e' => erounds ks (w1 :: w2 :: w3 :: w4 :: w5 :: w6 :: w7 :: w8 :: w9 :: w10 :: w11 :: w12 :: w13 :: w14 :: w15 :: w16 :: r) a' a b c e' e f g
  | _, _, a, b, c, d, e, f, g, h => ⟨a, b, c, d, e, f, g, h⟩

theorem erounds_step (k : Nat) (ks : List Nat) (w0 w1 w2 w3 w4 w5 w6 w7 w8 w9 w10 w11 w12 w13 w14 w15 : Nat) (s : W8) :
    erounds (k :: ks) [w0, w1, w2, w3, w4, w5, w6, w7, w8, w9, w10, w11, w12, w13, w14, w15] s.a s.b s.c s.d s.e s.f s.g s.h =
      erounds ks [w1, w2, w3, w4, w5, w6, w7, w8, w9, w10, w11, w12, w13, w14, w15, wnew w14 w9 w1 w0] (turn1 s k w0).a (turn1 s k w0).b (turn1 s k w0).c (turn1 s k w0).d (turn1 s k w0).e (turn1 s k w0).f (turn1 s k w0).g (turn1 s k w0).h := by
  rw [erounds, now_eq]
  unfold eround
  rw [now_eq, now_eq, now_eq]
  rfl

/-- the sixteen words from t on -/
def win (B : Nat → Nat) (t : Nat) : List Nat := [sched B t, sched B (t + 1), sched B (t + 2), sched B (t + 3), sched B (t + 4), sched B (t + 5), sched B (t + 6), sched B (t + 7), sched B (t + 8), sched B (t + 9), sched B (t + 10), sched B (t + 11), sched B (t + 12), sched B (t + 13), sched B (t + 14), sched B (t + 15)]

theorem erounds_turns (B : Nat → Nat) (s : W8) : ∀ (ks : List Nat) (t : Nat), (∀ i, i < ks.length → ks[i]? = some (K (t + i))) →
    erounds ks (win B t) (turns K (sched B) s t).a (turns K (sched B) s t).b (turns K (sched B) s t).c (turns K (sched B) s t).d (turns K (sched B) s t).e (turns K (sched B) s t).f (turns K (sched B) s t).g (turns K (sched B) s t).h = turns K (sched B) s (t + ks.length)
  | [], t, _ => by
    rw [erounds]
    · rfl
    · intro k ks' w0 w1 w2 w3 w4 w5 w6 w7 w8 w9 w10 w11 w12 w13 w14 w15 r h
      cases h
  | k :: ks, t, h => by
    have hk : k = K t := by
      have := h 0 (by simp)
      simpa using this
    unfold win
    rw [erounds_step]
    have e : wnew (sched B (t + 14)) (sched B (t + 9)) (sched B (t + 1)) (sched B t) = sched B (t + 16) := by
      rw [sched_high B (t := t + 16) (by omega)]
      rfl
    rw [e, hk]
    have ih := erounds_turns B s ks (t + 1) (fun i hi => by
      have := h (i + 1) (by simp; omega)
      rw [List.getElem?_cons_succ] at this
      rw [this, show t + (i + 1) = t + 1 + i by omega])
    have e2 : t + 1 + ks.length = t + (k :: ks).length := by simp; omega
    rw [e2] at ih
    rw [hk] at ih
    exact ih

def ewords : List Nat → List Nat
  | x0 :: x1 :: x2 :: x3 :: r => now (((x0 <<< 24 ||| x1 <<< 16) ||| x2 <<< 8) ||| x3) fun w => w :: ewords r
  | _ => []
/-- one block of bytes, given as a list -/
def eb (s : W8) (l : List Nat) : W8 :=
  match s with
  | ⟨a, b, c, d, e, f, g, h⟩ =>
    match erounds KL (ewords l) a b c d e f g h with
    | ⟨a', b', c', d', e', f', g', h'⟩ =>
      now ((a + a') % M) fun a => now ((b + b') % M) fun b => now ((c + c') % M) fun c => now ((d + d') % M) fun d => now ((e + e') % M) fun e => now ((f + f') % M) fun f => now ((g + g') % M) fun g => now ((h + h') % M) fun h => ⟨a, b, c, d, e, f, g, h⟩
def ego (T : Nat → Nat) : Nat → Nat → W8 → W8
  | 0, _, s => s
  | f + 1, k, s => ego T f (k + 1) (eb s ((List.range 64).map (fun i => T (64 * k + i))))

theorem range64 : List.range 64 = [0, 1, 2, 3, 4, 5, 6, 7, 8, 9, 10, 11, 12, 13, 14, 15, 16, 17, 18, 19, 20, 21, 22, 23, 24, 25, 26, 27, 28, 29, 30, 31, 32, 33, 34, 35, 36, 37, 38, 39, 40, 41, 42, 43, 44, 45, 46, 47, 48, 49, 50, 51, 52, 53, 54, 55, 56, 57, 58, 59, 60, 61, 62, 63] := by decide
theorem ewords_win (B : Nat → Nat) : ewords ((List.range 64).map B) = win B 0 := by
  rw [range64]
  simp only [List.map_cons, List.map_nil, ewords, now_eq]
  unfold win
  rw [sched_low B (show 0 < 16 by decide), sched_low B (show 0 + 1 < 16 by decide), sched_low B (show 0 + 2 < 16 by decide), sched_low B (show 0 + 3 < 16 by decide), sched_low B (show 0 + 4 < 16 by decide), sched_low B (show 0 + 5 < 16 by decide), sched_low B (show 0 + 6 < 16 by decide), sched_low B (show 0 + 7 < 16 by decide), sched_low B (show 0 + 8 < 16 by decide), sched_low B (show 0 + 9 < 16 by decide), sched_low B (show 0 + 10 < 16 by decide), sched_low B (show 0 + 11 < 16 by decide), sched_low B (show 0 + 12 < 16 by decide), sched_low B (show 0 + 13 < 16 by decide), sched_low B (show 0 + 14 < 16 by decide), sched_low B (show 0 + 15 < 16 by decide)]
  rfl
theorem KL_get : ∀ i, i < KL.length → KL[i]? = some (K (0 + i)) := by
  intro i hi
  rw [Nat.zero_add, List.getElem?_eq_getElem hi]
  unfold K
  rw [List.getD_eq_getElem?_getD, List.getElem?_eq_getElem hi]
  rfl
theorem eb_eq (s : W8) (B : Nat → Nat) : eb s ((List.range 64).map B) = fold1 s B := by
  have h := erounds_turns B s KL 0 KL_get
  rw [← ewords_win B] at h
  have h2 : erounds KL (ewords ((List.range 64).map B)) s.a s.b s.c s.d s.e s.f s.g s.h = turns K (sched B) s 64 := h
  unfold eb fold1
  rw [← h2]
  cases s
  simp only [now_eq, plus]
theorem ego_folds (T : Nat → Nat) : ∀ f k, ego T f k (folds T k) = folds T (k + f)
  | 0, _ => rfl
  | f + 1, k => by
    rw [ego, eb_eq, show k + (f + 1) = k + 1 + f by omega]
    exact ego_folds T f (k + 1)
theorem folds_ego (T : Nat → Nat) (k : Nat) : folds T k = ego T k 0 H0 := by
  have := ego_folds T k 0
  rw [Nat.zero_add] at this
  exact this.symm

def L2 : List Nat := [97, 98, 99]
def L3 : List Nat := [97, 98, 99, 100, 98, 99, 100, 101, 99, 100, 101, 102, 100, 101, 102, 103, 101, 102, 103, 104, 102, 103, 104, 105, 103, 104, 105, 106, 104, 105, 106, 107, 105, 106, 107, 108, 106, 107, 108, 109, 107, 108, 109, 110, 108, 109, 110, 111, 109, 110, 111, 112, 110, 111, 112, 113]
theorem known0 : ego (cat 0 (fun _ => 0) (padb 0)) 1 0 H0 = ⟨0xe3b0c442, 0x98fc1c14, 0x9afbf4c8, 0x996fb924, 0x27ae41e4, 0x649b934c, 0xa495991b, 0x7852b855⟩ := by kernel_rfl
theorem known1 : ego (cat 3 (fun i => L2.getD i 0) (padb 3)) 1 0 H0 = ⟨0xba7816bf, 0x8f01cfea, 0x414140de, 0x5dae2223, 0xb00361a3, 0x96177a9c, 0xb410ff61, 0xf20015ad⟩ := by kernel_rfl
theorem known2 : ego (cat 56 (fun i => L3.getD i 0) (padb 56)) 2 0 H0 = ⟨0x248d6a61, 0xd20638b8, 0xe5c02693, 0x0c3e6039, 0xa33ce459, 0x64ff2167, 0xf6ecedd4, 0x19db06c1⟩ := by kernel_rfl
theorem known3 : ego (cat 1000 (fun _ => 97) (padb 1000)) 16 0 H0 = ⟨0x41edece4, 0x2d63e8d9, 0xbf515a9b, 0xa6932e1c, 0x20cbc9f5, 0xa5d13464, 0x5adb5db1, 0xb9737ea3⟩ := by kernel_rfl
end Go.Proofs.YtlhllbggnpcoaaaGreatDoor

/-
  New, Len, Copy, and the sum of parts.
-/
namespace Go.Proofs.YtlhllbggnpcoaaaGreatDoor
open Go.RowKit

/-- the program's first words -/
def First (w : World) : Prop := ∀ i, i < 8 → w.cell? ⟨0, i, none⟩ = some (.int .u32 (w8 H0 i))
theorem First.below {w w' : World} (h : First w) {B : Nat} (hb : Below B w w') (hB : 0 < B) : First w' := fun i hi => (hb.cell (p := ⟨0, i, none⟩) hB).trans (h i hi)

def N73 : Array Value := #[.int .u32 1779033703, .int .u32 3144134277, .int .u32 1013904242, .int .u32 2773480762, .int .u32 1359893119, .int .u32 2600822924, .int .u32 528734635, .int .u32 1541459225, .int .u8 0, .int .u8 0, .int .u8 0, .int .u8 0, .int .u8 0, .int .u8 0, .int .u8 0, .int .u8 0, .int .u8 0, .int .u8 0, .int .u8 0, .int .u8 0, .int .u8 0, .int .u8 0, .int .u8 0, .int .u8 0, .int .u8 0, .int .u8 0, .int .u8 0, .int .u8 0, .int .u8 0, .int .u8 0, .int .u8 0, .int .u8 0, .int .u8 0, .int .u8 0, .int .u8 0, .int .u8 0, .int .u8 0, .int .u8 0, .int .u8 0, .int .u8 0, .int .u8 0, .int .u8 0, .int .u8 0, .int .u8 0, .int .u8 0, .int .u8 0, .int .u8 0, .int .u8 0, .int .u8 0, .int .u8 0, .int .u8 0, .int .u8 0, .int .u8 0, .int .u8 0, .int .u8 0, .int .u8 0, .int .u8 0, .int .u8 0, .int .u8 0, .int .u8 0, .int .u8 0, .int .u8 0, .int .u8 0, .int .u8 0, .int .u8 0, .int .u8 0, .int .u8 0, .int .u8 0, .int .u8 0, .int .u8 0, .int .u8 0, .int .u8 0, .int .i64 0]
set_option maxRecDepth 100000 in
theorem N73_cell : ∀ i, i < 73 → N73[i]? = some (stc E0.tl H0 (fun _ => 0) 0 i) := by
  intro i hi
  unfold stc
  by_cases h1 : i < 8
  · rw [if_pos h1]
    match i, h1 with
    | 0, _ => rfl
    | 1, _ => rfl
    | 2, _ => rfl
    | 3, _ => rfl
    | 4, _ => rfl
    | 5, _ => rfl
    | 6, _ => rfl
    | 7, _ => rfl
  · rw [if_neg h1]
    have e : N73 = #[.int .u32 1779033703, .int .u32 3144134277, .int .u32 1013904242, .int .u32 2773480762, .int .u32 1359893119, .int .u32 2600822924, .int .u32 528734635, .int .u32 1541459225] ++ (Array.replicate 64 (.int .u8 0) ++ #[.int .i64 0]) := by rfl
    rw [e, Array.getElem?_append_right (by simp; omega)]
    by_cases h2 : i < 72
    · rw [if_pos h2, Array.getElem?_append_left (by simp; omega)]
      have e2 : i - (#[Value.int .u32 1779033703, .int .u32 3144134277, .int .u32 1013904242, .int .u32 2773480762, .int .u32 1359893119, .int .u32 2600822924, .int .u32 528734635, .int .u32 1541459225] : Array Value).size < 64 := by simp; omega
      rw [Array.getElem?_replicate, if_pos e2]
      rfl
    · rw [if_neg h2, Array.getElem?_append_right (by simp; omega)]
      have : i = 72 := by omega
      subst this
      rfl

def H8 : Array Value := #[.int .u32 1779033703, .int .u32 3144134277, .int .u32 1013904242, .int .u32 2773480762, .int .u32 1359893119, .int .u32 2600822924, .int .u32 528734635, .int .u32 1541459225]
theorem built54 : Tryz.prog.built 117 [(0, .agg (arr8 H0))] = some N73 := by kernel_rfl
theorem wpList_build_to {P : Program} {ops : Array Oper} {rest : List Oper} {o : Oper} {a : Act} {w : World} {Q : Exit → Act → World → Prop} (hg : o.guard = none) (t : TypeId) (parts : Array (Nat × Operand)) (ho : o.op = .build t parts) (cells : Array Value)
    (hb : P.built t (parts.map fun (i, x) => (i, a.eval x)).toList = some cells)
    (h : wpList P ops Q rest (a.put o.dst (.agg cells)) w) : wpList P ops Q (o :: rest) a w :=
  wpList_build hg t parts ho (by rw [hb]; rfl) (by rw [hb]; exact h)

set_option maxRecDepth 100000 in
theorem new_any (w : World) (hF : First w) : Calls Tryz.prog 52 #[] w fun e w' => e = .returned (.pointer (some ⟨w.heap.size, 0, none⟩)) ∧ St w' w.heap.size 0 (fun _ => 0) ∧ Below w.heap.size w w' := by
  have hc : ∀ j, j < (arr8 H0).size → w.cell? ⟨0, j, none⟩ = (arr8 H0)[j]? := fun j hj => (hF j hj).trans (arr8_cell H0 j hj).symm
  clear hF
  go_enter Tryz.func52, Tryz.ntmps52
  go_wp2_with (first
    | refine wpList_load_cells rfl 114 (.global 0) rfl 0 rfl (arr8 H0) _ hc Tryz.underlying114 rfl info51 ?_
    | refine wpList_build_to (by rfl) 117 #[(0, .tmp 1)] (by rfl) N73 (by simp only [List.map_toArray, List.map_cons, List.map_nil]; exact built54) ?_)
  go_ret
  have r := World.rowIs_alloc w N73 117 (stc E0.tl H0 (fun _ => 0) 0) (fun i hi => N73_cell i hi)
  exact ⟨rfl, ⟨⟨fun _ => 0, r, fun _ => (by decide : 0 < 256), fun i hi => absurd hi (by omega)⟩, fun _ => (by decide : 0 < 256)⟩, (Below.refl _ _).alloc (Nat.le_refl _) _⟩

theorem write_nil (w : World) (v : Value) : Calls Tryz.prog 53 #[.pointer none, v] w fun e w' => e = .returned (.tuple #[]) ∧ w' = w := by
  go_enter Tryz.func53, Tryz.ntmps53
  go_wp2
  refine bodyPost_ret (results_none rfl _ _ _) rfl ?_
  exact ⟨rfl, rfl⟩

structure Parts (w : World) (pa : Option Addr) (pb po k : Nat) (A : Nat → Option Addr) (b off m c : Nat → Nat) (Y : Nat → Nat → Nat) : Prop where
  at_ : 0 < k → pa = some ⟨pb, po, none⟩
  cell : ∀ i, i < k → w.cell? ⟨pb, po + i, none⟩ = some (.slice (A i) (m i) (c i))
  view : ∀ i, i < k → View w (A i) (b i) (off i) (m i) (fun j => (Y i j : Int))
  cap : ∀ i, i < k → m i ≤ c i
  bd : ∀ i j, Y i j < 256
theorem Parts.below {w w' : World} {pa : Option Addr} {pb po k : Nat} {A : Nat → Option Addr} {b off m c : Nat → Nat} {Y : Nat → Nat → Nat} (h : Parts w pa pb po k A b off m c Y) (hb : Below w.heap.size w w') : Parts w' pa pb po k A b off m c Y :=
  ⟨h.at_, fun i hi => (hb.cell (World.block_lt_of_cell? _ _ (h.cell i hi))).trans (h.cell i hi), fun i hi => (h.view i hi).below hb, h.cap, h.bd⟩
/-- how many bytes the first k have, and which -/
def tot (m : Nat → Nat) : Nat → Nat
  | 0 => 0
  | k + 1 => tot m k + m k
def jn (m : Nat → Nat) (Y : Nat → Nat → Nat) : Nat → Nat → Nat
  | 0 => fun _ => 0
  | k + 1 => cat (tot m k) (jn m Y k) (Y k)
theorem tot_mono (m : Nat → Nat) {i k : Nat} (h : i ≤ k) : tot m i ≤ tot m k := by
  induction k with
  | zero => rw [Nat.le_zero.1 h]; exact Nat.le_refl _
  | succ k ih =>
    by_cases e : i = k + 1
    · rw [e]; exact Nat.le_refl _
    · have := ih (by omega)
      simp only [tot]
      omega
theorem jn_lt {m : Nat → Nat} {Y : Nat → Nat → Nat} (h : ∀ i j, Y i j < 256) : ∀ k i, jn m Y k i < 256
  | 0, _ => by simp [jn]
  | k + 1, i => cat_lt (jn_lt h k) (h k) i

structure SmF (w wr : World) (n : Nat) (X : Nat → Nat) : Prop where
  below : Below w.heap.size w wr
  size : w.heap.size + 2 ≤ wr.heap.size
  out : wr.rowIs w.heap.size 31 32 (fun _ => .int .u8 0)
  st : St wr (w.heap.size + 1) n X

set_option maxRecDepth 100000 in
set_option maxHeartbeats 4000000 in
theorem sums_any (w : World) (pa : Option Addr) (pb po k cap : Nat) (A : Nat → Option Addr) (b off m c : Nat → Nat) (Y : Nat → Nat → Nat) (h : Parts w pa pb po k A b off m c Y) (hK : Roots w) (hF : First w) (hw : 2 < w.heap.size) (hkm : k ≤ 281474976710656) (hlen : tot m k ≤ 576460752303423488) :
    Calls Tryz.prog 27 #[.slice pa k cap] w fun e w' => e = .returned (.agg (hashA (digest (tot m k) (jn m Y k)))) ∧ Below w.heap.size w w' := by
  have b1 : Below w.heap.size w (w.alloc (.cells Z32 31)) := (Below.refl _ _).alloc (Nat.le_refl _) _
  have o1 : (w.alloc (.cells Z32 31)).rowIs w.heap.size 31 32 (fun _ => .int .u8 0) := by rw [Z32_rep]; exact zeros_row w _ 32 31
  have HP : Hid (Parts w pa pb po k A b off m c Y) := h
  have HB1 : Hid (Below w.heap.size w (w.alloc (.cells Z32 31)) ∧ (w.alloc (.cells Z32 31)).rowIs w.heap.size 31 32 (fun _ => .int .u8 0)) := ⟨b1, o1⟩
  have HK : Hid (Roots w) := hK
  have HFi : Hid (First w) := hF
  clear h b1 o1 hK hF
  go_enter Tryz.func27, Tryz.ntmps27
  go_wp2_with fail
  refine (new_any _ (HFi.out.below HB1.out.1 (by omega))).mono ?_
  rintro _ w1 ⟨rfl, st1, hb1⟩
  simp only [World.size_alloc] at st1
  have HS1 : Hid (SmF w w1 (tot m 0) (jn m Y 0)) := ⟨HB1.out.1.trans (hb1.mono (by simp)), by have := hb1.size; have := st1.lt; omega, HB1.out.2.of_block (hb1.block _ (by simp)), st1⟩
  clear st1 hb1 HB1
  go_wp2_with fail
  go_loopg [9] k (fun g i wr => ∃ j : Nat, j ≤ k ∧ g = k - j ∧ i = .int .i64 j ∧ SmF w wr (tot m j) (jn m Y j))
  case atStart => exact ⟨0, by omega, rfl, rfl, HS1.out⟩
  case round =>
    obtain ⟨j, hj, rfl, rfl, hR⟩ := hrel
    clear HS1
    by_cases hjk : j < k
    · obtain rfl := HP.out.at_ (by omega)
      have cj : wr.cell? ⟨pb, po + j, none⟩ = some (.slice (A j) (m j) (c j)) := (HP.out.below hR.below).cell j hjk
      have vj : View wr (A j) (b j) (off j) (m j) (fun t => (Y j t : Int)) := (HP.out.below hR.below).view j hjk
      have capj := HP.out.cap j hjk
      have bj : 0 < m j → b j ≠ w.heap.size + 1 := fun h0 => by have := (HP.out.view j hjk).lt h0; omega
      have lj : tot m j + m j ≤ 1152921504606846976 := by have := tot_mono m (show j + 1 ≤ k by omega); simp only [tot] at this; omega
      have HR : Hid (SmF w wr (tot m j) (jn m Y j)) := hR
      have HV : Hid (View wr (A j) (b j) (off j) (m j) (fun t => (Y j t : Int))) := vj
      clear hR vj
      go_wp2_with fail
      refine (write_any wr (w.heap.size + 1) _ _ HR.out.st _ (b j) (off j) (m j) (c j) (Y j) HV.out (HP.out.bd j) bj capj (HK.out.below HR.out.below hw) (by have := HR.out.size; omega) (by omega) lj).mono ?_
      rintro _ w2 ⟨rfl, hs2, st2⟩
      have HN : Hid (SmF w w2 (tot m (j + 1)) (jn m Y (j + 1))) := ⟨HR.out.below.trans (hs2.below (by omega) HR.out.below.size), Nat.le_trans HR.out.size hs2.size, hs2.row HR.out.out (by omega), st2⟩
      clear hs2 st2 cj
      go_wp2_with fail
      go_roundg (k - (j + 1))
      case measure => omega
      case rel => exact ⟨j + 1, by omega, rfl, by go_num, HN.out⟩
    · have : j = k := by omega
      subst this
      have HR : Hid (SmF w wr (tot m j) (jn m Y j)) := hR
      clear hR
      go_wp2_with fail
      refine (sum_any wr (w.heap.size + 1) _ _ HR.out.st (HK.out.below HR.out.below hw) (by have := HR.out.size; omega) hlen).mono ?_
      rintro _ w2 ⟨rfl, hb2⟩
      obtain ⟨os, og, osz, _⟩ := HR.out.out.of_block (hb2.block w.heap.size (by have := HR.out.size; omega))
      have hi : (Tryz.prog.info? 31).map (·.size) = some (hashA (digest (tot m j) (jn m Y j))).size := by rw [hashA_size]; exact info26
      have h1 : (hashA (digest (tot m j) (jn m Y j))).all (·.oneCell') = true := all_one (fun i hi => ⟨_, _, hashA_cell _ i (by rw [hashA_size] at hi; exact hi)⟩)
      have ho : os.size = (hashA (digest (tot m j) (jn m Y j))).size := by rw [hashA_size]; exact osz
      have HB : Hid (Below w.heap.size w w2) := HR.out.below.trans (hb2.mono HR.out.below.size)
      obtain ⟨hv, hhv⟩ : ∃ x, x = hashA (digest (tot m j) (jn m Y j)) := ⟨_, rfl⟩
      rw [← hhv] at hi h1 ho ⊢
      have Hhv : Hid (hv = hashA (digest (tot m j) (jn m Y j))) := hhv
      clear hhv hb2
      go_wp2_with (refine wpList_store_row (by rfl) 31 (.tmp 2) (.tmp 18) (by rfl) w.heap.size hv (by rfl) (by rfl) 31 os og hi ho h1 ?_)
      refine bodyPost_ret (v := .agg hv) ?_ rfl ?_
      · exact results_cell_row rfl _ _ w.heap.size 31 hv (0, 0) _ rfl (setRow_heap _ _ _ _ _ _ og) Tryz.underlying31 rfl hi
      · exact ⟨by rw [Hhv.out], below_setRow HB.out (Nat.le_refl _) _⟩
end Go.Proofs.YtlhllbggnpcoaaaGreatDoor
