import Derived.Test.YtpmdjopojcgpeaaGreatDoorQSumMq
import Derived.DeepKeys
import Derived.Test.YtpmdjopojcgpeaaGreatDoorQSmq
import Derived.Laws.IdiomStrings
import Derived.Lib.QuietBelow
import Derived.Deep.RegionLaw
import Derived.Deep.RegionHeld3
/-
  Two hashes that are one.
-/
namespace Go.Proofs.YtpmdjopojcgpeaaGreatDoor.Dg
open Go.BigFrame

theorem mapM_some {α β : Type} (f : α → Option β) (g : α → β) : ∀ l : List α, (∀ x ∈ l, f x = some (g x)) → l.mapM f = some (l.map g)
  | [], _ => rfl
  | x :: l, h => by
    rw [List.mapM_cons, h x (by simp), mapM_some f g l (fun y hy => h y (by simp [hy]))]
    rfl
theorem lits26 (cs : Array Value) (f : Nat → Nat) (hs : cs.size = 32) (hc : ∀ i, i < 32 → cs[i]? = some (.int .u8 (f i))) (hf : ∀ i, f i < 256) :
    Tryz.prog.keyLits 2 38 cs.toList = some (((List.range 32).map (fun i => [Lit.int .u8 (f i)])).flatten) := by
  have c26 : Tryz.prog.cellsOf 38 = 32 := by kernel_rfl
  have c5 : Tryz.prog.cellsOf 5 = 1 := by kernel_rfl
  unfold Program.keyLits
  rw [Tryz.underlying38]
  simp only [Array.length_toList, hs, c26, if_true]
  rw [mapM_some _ (fun i => [Lit.int .u8 (f i)]) (List.range 32) ?_]
  · rfl
  · intro i hi
    have hi' : i < 32 := by simpa using hi
    have e : (cs.toList.drop (i * Tryz.prog.cellsOf 5)).take (Tryz.prog.cellsOf 5) = [.int .u8 (f i)] := by
      rw [c5, Nat.mul_one]
      have h2 := hc i hi'
      rw [Array.getElem?_eq_getElem (by omega)] at h2
      rw [List.drop_eq_getElem_cons (by simp; omega)]
      simp only [List.take_succ_cons, List.take_zero, Array.getElem_toList]
      rw [Option.some.inj h2]
    rw [e]
    unfold Program.keyLits
    rw [Tryz.underlying5]
    have wf : (Lit.int .u8 (f i)).wf = true := by
      have := hf i
      simp [Lit.wf, IntKind.min, IntKind.max, IntKind.bits, IntKind.signed]
      omega
    simp only [wf, and_self, if_true]
theorem eq_hash (w : World) (cs : Array Value) (f : Nat → Nat) (hs : cs.size = 32) (hc : ∀ i, i < 32 → cs[i]? = some (.int .u8 (f i))) (hf : ∀ i, f i < 256) :
    (Op.equalIn 10000 38 (.agg cs) (.agg cs)).run Tryz.prog w = .ok true w := by
  have K : Tryz.prog.keyTypeAt 2 38 = true := by kernel_rfl
  have c26 : Tryz.prog.cellsOf 38 = 32 := by kernel_rfl
  have fm : (Value.agg cs).formed Tryz.prog 38 = true := by
    unfold Value.formed
    rw [Tryz.underlying38, c26]
    show (cs.size == 32) = true
    rw [hs]
    rfl
  have kl := lits26 cs f hs hc hf
  obtain ⟨r, hr, hiff⟩ := run_equalIn_deep 9998 2 38 K w 2 2 (.agg cs) (.agg cs) _ _ fm fm kl kl
  rw [hiff.2 rfl] at hr
  exact hr
theorem eq_hashA (w : World) (s : W8) : (Op.equalIn 10000 38 (.agg (hashA s)) (.agg (hashA s))).run Tryz.prog w = .ok true w :=
  eq_hash w _ (hb s) (hashA_size s) (hashA_cell s) (fun _ => Nat.mod_lt _ (by decide))
theorem eq_Z32 (w : World) : (Op.equalIn 10000 38 (.agg Z32) (.agg Z32)).run Tryz.prog w = .ok true w :=
  eq_hash w _ (fun _ => 0) rfl (fun i hi => by rw [Z32_rep, Array.getElem?_replicate, if_pos hi]; rfl) (fun _ => by decide)

section
variable {P : Program}
theorem wpList_load_cells_g {ops : Array Oper} {rest : List Oper} {o : Oper} {a : Act} {w : World} {Q : Exit → Act → World → Prop} (hgd : Region.wanted o (yielded ops a.tmps) = true) (ty : TypeId) (x : Operand) (ho : o.op = .load ty x)
    (g : Nat) (hx : a.eval x = .pointer (some ⟨g, 0, none⟩)) (cs : Array Value) (d : TypeDesc) (hc : ∀ j, j < cs.size → w.cell? ⟨g, j, none⟩ = cs[j]?)
    (hu : P.underlying ty = some d) (hd : (match d with | .struct _ | .array _ _ => true | _ => false) = true) (hi : (P.info? ty).map (·.size) = some cs.size)
    (h : wpList P ops Q rest (a.put o.dst (.agg cs)) w) : wpList P ops Q (o :: rest) a w := by
  refine wpList_want hgd fun K hK => ?_
  unfold Oper.wp execOp
  simp only [ho, hx, Instr.loadAt, Instr.sureAddr, Sem.run_bind, Sem.run_pure, Result.andThen_ok, run_loadVar_cells w g ty cs d hc hu hd hi]
  exact hK _ _ h
end
end Go.Proofs.YtpmdjopojcgpeaaGreatDoor.Dg

/-
  The sum of given bytes, reckoned by the kernel.
-/
namespace Go.Proofs.YtpmdjopojcgpeaaGreatDoor.Dg

/-- n is reckoned first -/
def now {α : Type} (n : Nat) (k : Nat → α) : α := match n with | 0 => k 0 | m + 1 => k (m + 1)
theorem now_eq {α : Type} (n : Nat) (k : Nat → α) : now n k = k n := by cases n <;> rfl

/-- a round: the words, the next sixteen of the schedule -/
def eround (k a b c d e f g h w : Nat) {α : Type} (r : Nat → Nat → α) : α :=
  now (((((h + big1 e) % M + pick e f g) % M + k) % M + w) % M) fun x => now ((x + (big0 a + most a b c) % M) % M) fun a' => now ((d + x) % M) fun e' => r a' e'
/-- the rest of the rounds: W holds the next sixteen words -/
def erounds : List Nat → List Nat → Nat → Nat → Nat → Nat → Nat → Nat → Nat → Nat → W8
  | k :: ks, w0 :: w1 :: w2 :: w3 :: w4 :: w5 :: w6 :: w7 :: w8 :: w9 :: w10 :: w11 :: w12 :: w13 :: w14 :: w15 :: r, a, b, c, d, e, f, g, h =>
    now (wnew w14 w9 w1 w0) fun w16 =>
      eround k a b c d e f g h w0 fun a' e' => erounds ks (w1 :: w2 :: w3 :: w4 :: w5 :: w6 :: w7 :: w8 :: w9 :: w10 :: w11 :: w12 :: w13 :: w14 :: w15 :: w16 :: r) a' a b c e' e f g
  | _, _, a, b, c, d, e, f, g, h => ⟨a, b, c, d, e, f, g, h⟩

theorem erounds_step (k : Nat) (ks : List Nat) (w0 w1 w2 w3 w4 w5 w6 w7 w8 w9 w10 w11 w12 w13 w14 w15 : Nat) (s : W8) :
    erounds (k :: ks) [w0, w1, w2, w3, w4, w5, w6, w7, w8, w9, w10, w11, w12, w13, w14, w15] s.a s.b s.c s.d s.e s.f s.g s.h =
      erounds ks [w1, w2, w3, w4, w5, w6, w7, w8, w9, w10, w11, w12, w13, w14, w15, wnew w14 w9 w1 w0] (turn1 s k w0).a (turn1 s k w0).b (turn1 s k w0).c (turn1 s k w0).d (turn1 s k w0).e (turn1 s k w0).f (turn1 s k w0).g (turn1 s k w0).h := by
  rw [erounds, now_eq]
  unfold eround
  rw [now_eq, now_eq, now_eq]
  rfl

/-- the sixteen words from t on -/
def win (B : Nat → Nat) (t : Nat) : List Nat := [sched B t, sched B (t + 1), sched B (t + 2), sched B (t + 3), sched B (t + 4), sched B (t + 5), sched B (t + 6), sched B (t + 7), sched B (t + 8), sched B (t + 9), sched B (t + 10), sched B (t + 11), sched B (t + 12), sched B (t + 13), sched B (t + 14), sched B (t + 15)]

theorem erounds_turns (B : Nat → Nat) (s : W8) : ∀ (ks : List Nat) (t : Nat), (∀ i, i < ks.length → ks[i]? = some (K (t + i))) →
    erounds ks (win B t) (turns K (sched B) s t).a (turns K (sched B) s t).b (turns K (sched B) s t).c (turns K (sched B) s t).d (turns K (sched B) s t).e (turns K (sched B) s t).f (turns K (sched B) s t).g (turns K (sched B) s t).h = turns K (sched B) s (t + ks.length)
  | [], t, _ => by
    rw [erounds]
    · rfl
    · intro k ks' w0 w1 w2 w3 w4 w5 w6 w7 w8 w9 w10 w11 w12 w13 w14 w15 r h
      cases h
  | k :: ks, t, h => by
    have hk : k = K t := by
      have := h 0 (by simp)
      simpa using this
    unfold win
    rw [erounds_step]
    have e : wnew (sched B (t + 14)) (sched B (t + 9)) (sched B (t + 1)) (sched B t) = sched B (t + 16) := by
      rw [sched_high B (t := t + 16) (by omega)]
      rfl
    rw [e, hk]
    have ih := erounds_turns B s ks (t + 1) (fun i hi => by
      have := h (i + 1) (by simp; omega)
      rw [List.getElem?_cons_succ] at this
      rw [this, show t + (i + 1) = t + 1 + i by omega])
    have e2 : t + 1 + ks.length = t + (k :: ks).length := by simp; omega
    rw [e2] at ih
    rw [hk] at ih
    exact ih

def ewords : List Nat → List Nat
  | x0 :: x1 :: x2 :: x3 :: r => now (((x0 <<< 24 ||| x1 <<< 16) ||| x2 <<< 8) ||| x3) fun w => w :: ewords r
  | _ => []
/-- one block of bytes, given as a list -/
def eb (s : W8) (l : List Nat) : W8 :=
  match s with
  | ⟨a, b, c, d, e, f, g, h⟩ =>
    match erounds KL (ewords l) a b c d e f g h with
    | ⟨a', b', c', d', e', f', g', h'⟩ =>
      now ((a + a') % M) fun a => now ((b + b') % M) fun b => now ((c + c') % M) fun c => now ((d + d') % M) fun d => now ((e + e') % M) fun e => now ((f + f') % M) fun f => now ((g + g') % M) fun g => now ((h + h') % M) fun h => ⟨a, b, c, d, e, f, g, h⟩
def ego (T : Nat → Nat) : Nat → Nat → W8 → W8
  | 0, _, s => s
  | f + 1, k, s => ego T f (k + 1) (eb s ((List.range 64).map (fun i => T (64 * k + i))))

theorem range64 : List.range 64 = [0, 1, 2, 3, 4, 5, 6, 7, 8, 9, 10, 11, 12, 13, 14, 15, 16, 17, 18, 19, 20, 21, 22, 23, 24, 25, 26, 27, 28, 29, 30, 31, 32, 33, 34, 35, 36, 37, 38, 39, 40, 41, 42, 43, 44, 45, 46, 47, 48, 49, 50, 51, 52, 53, 54, 55, 56, 57, 58, 59, 60, 61, 62, 63] := by decide
theorem ewords_win (B : Nat → Nat) : ewords ((List.range 64).map B) = win B 0 := by
  rw [range64]
  simp only [List.map_cons, List.map_nil, ewords, now_eq]
  unfold win
  rw [sched_low B (show 0 < 16 by decide), sched_low B (show 0 + 1 < 16 by decide), sched_low B (show 0 + 2 < 16 by decide), sched_low B (show 0 + 3 < 16 by decide), sched_low B (show 0 + 4 < 16 by decide), sched_low B (show 0 + 5 < 16 by decide), sched_low B (show 0 + 6 < 16 by decide), sched_low B (show 0 + 7 < 16 by decide), sched_low B (show 0 + 8 < 16 by decide), sched_low B (show 0 + 9 < 16 by decide), sched_low B (show 0 + 10 < 16 by decide), sched_low B (show 0 + 11 < 16 by decide), sched_low B (show 0 + 12 < 16 by decide), sched_low B (show 0 + 13 < 16 by decide), sched_low B (show 0 + 14 < 16 by decide), sched_low B (show 0 + 15 < 16 by decide)]
  rfl
theorem KL_get : ∀ i, i < KL.length → KL[i]? = some (K (0 + i)) := by
  intro i hi
  rw [Nat.zero_add, List.getElem?_eq_getElem hi]
  unfold K
  rw [List.getD_eq_getElem?_getD, List.getElem?_eq_getElem hi]
  rfl
theorem eb_eq (s : W8) (B : Nat → Nat) : eb s ((List.range 64).map B) = fold1 s B := by
  have h := erounds_turns B s KL 0 KL_get
  rw [← ewords_win B] at h
  have h2 : erounds KL (ewords ((List.range 64).map B)) s.a s.b s.c s.d s.e s.f s.g s.h = turns K (sched B) s 64 := h
  unfold eb fold1
  rw [← h2]
  cases s
  simp only [now_eq, plus]
theorem ego_folds (T : Nat → Nat) : ∀ f k, ego T f k (folds T k) = folds T (k + f)
  | 0, _ => rfl
  | f + 1, k => by
    rw [ego, eb_eq, show k + (f + 1) = k + 1 + f by omega]
    exact ego_folds T f (k + 1)
theorem folds_ego (T : Nat → Nat) (k : Nat) : folds T k = ego T k 0 H0 := by
  have := ego_folds T k 0
  rw [Nat.zero_add] at this
  exact this.symm

def L2 : List Nat := [97, 98, 99]
def L3 : List Nat := [97, 98, 99, 100, 98, 99, 100, 101, 99, 100, 101, 102, 100, 101, 102, 103, 101, 102, 103, 104, 102, 103, 104, 105, 103, 104, 105, 106, 104, 105, 106, 107, 105, 106, 107, 108, 106, 107, 108, 109, 107, 108, 109, 110, 108, 109, 110, 111, 109, 110, 111, 112, 110, 111, 112, 113]
theorem known0 : ego (cat 0 (fun _ => 0) (padb 0)) 1 0 H0 = ⟨0xe3b0c442, 0x98fc1c14, 0x9afbf4c8, 0x996fb924, 0x27ae41e4, 0x649b934c, 0xa495991b, 0x7852b855⟩ := by kernel_rfl
theorem known1 : ego (cat 3 (fun i => L2.getD i 0) (padb 3)) 1 0 H0 = ⟨0xba7816bf, 0x8f01cfea, 0x414140de, 0x5dae2223, 0xb00361a3, 0x96177a9c, 0xb410ff61, 0xf20015ad⟩ := by kernel_rfl
theorem known2 : ego (cat 56 (fun i => L3.getD i 0) (padb 56)) 2 0 H0 = ⟨0x248d6a61, 0xd20638b8, 0xe5c02693, 0x0c3e6039, 0xa33ce459, 0x64ff2167, 0xf6ecedd4, 0x19db06c1⟩ := by kernel_rfl
theorem known3 : ego (cat 1000 (fun _ => 97) (padb 1000)) 16 0 H0 = ⟨0x41edece4, 0x2d63e8d9, 0xbf515a9b, 0xa6932e1c, 0x20cbc9f5, 0xa5d13464, 0x5adb5db1, 0xb9737ea3⟩ := by kernel_rfl
end Go.Proofs.YtpmdjopojcgpeaaGreatDoor.Dg

/-
  What all laws of mac lean on: the tables, a hash in a block of its own, the sum of one list.
-/
namespace Go.Proofs.YtpmdjopojcgpeaaGreatDoor.Dg
open Go.RowKit Go.Sort

/-- all that the program keeps -/
structure Ground (w : World) : Prop where
  first : First w
  roots : Roots w
  big : 3 < w.heap.size
theorem Ground.below {w w' : World} (h : Ground w) (hb : Below w.heap.size w w') : Ground w' :=
  ⟨h.first.below hb (by have := h.big; omega), h.roots.below hb h.big, Nat.lt_of_lt_of_le h.big hb.size⟩
theorem Ground.save {w w' : World} (h : Ground w) {p : Nat} (hb : Save p w w') (hp : 3 < p) : Ground w' :=
  ⟨fun i hi => (hb.cell (q := ⟨0, i, none⟩) (by have := h.big; show (0 : Nat) < _; omega) (by show (0 : Nat) ≠ p; omega)).trans (h.first i hi), h.roots.save hb h.big (by omega), Nat.lt_of_lt_of_le h.big hb.size⟩

/-- the bytes of a text -/
def byt (s : ByteArray) (i : Nat) : Nat := (s.data.getD i 0).toNat
theorem byt_lt (s : ByteArray) (i : Nat) : byt s i < 256 := UInt8.toNat_lt _
theorem digest_congr {n : Nat} {X Y : Nat → Nat} (h : ∀ i, i < n → X i = Y i) : digest n X = digest n Y := by
  unfold digest
  refine folds_congr _ (fun i _ => ?_)
  unfold cat
  by_cases e : i < n
  · rw [if_pos e, if_pos e, h i e]
  · rw [if_neg e, if_neg e]
theorem digest_ego (n : Nat) (X : Nat → Nat) : digest n X = ego (cat n X (padb n)) ((n + (zend n + 8)) / 64) 0 H0 := folds_ego _ _
theorem view_text (w : World) (s : ByteArray) (hs : s.size ≤ 281474976710656) : View (w.drew.alloc (.cells (bytesRow s (grownCap w s.size 0 5)) 5 ((bytesRow s (grownCap w s.size 0 5)).size, (bytesRow s (grownCap w s.size 0 5)).size + 1))) (some ⟨w.heap.size, 0, none⟩) w.heap.size 0 s.size (fun i => (byt s i : Int)) := by
  refine ⟨fun _ => rfl, fun i hi => ?_, fun i hi => ?_, hs⟩
  · have e := cell_of_row _ _ i _ 5 _ (heap_alloc_new w.drew (.cells (bytesRow s (grownCap w s.size 0 5)) 5 ((bytesRow s (grownCap w s.size 0 5)).size, (bytesRow s (grownCap w s.size 0 5)).size + 1)))
    rw [Nat.zero_add]
    refine Eq.trans e ?_
    rw [bytesRow_at s _ i hi]
    have hi' : i < s.data.size := hi
    unfold byt
    rw [Array.getD_eq_getD_getElem?, Array.getElem?_eq_getElem hi']
    rfl
  · have := byt_lt s i
    omega

/-- one list of bytes, in a new list -/
theorem parts_one {w : World} {A : Option Addr} {b off m c : Nat} {Y : Nat → Nat} (hv : View w A b off m (fun i => (Y i : Int))) (hc : m ≤ c) (hY : ∀ i, Y i < 256) (t : TypeId) :
    Parts (w.alloc (.cells #[.slice A m c] t)) (some ⟨w.heap.size, 0, none⟩) w.heap.size 0 1 (fun _ => A) (fun _ => b) (fun _ => off) (fun _ => m) (fun _ => c) (fun _ => Y) := by
  refine ⟨fun _ => rfl, fun i hi => ?_, fun i hi => hv.below ((Below.refl _ _).alloc (Nat.le_refl _) _), fun i hi => hc, fun _ => hY⟩
  have : i = 0 := by omega
  subst this
  rw [cell_of_row _ _ _ _ t _ (heap_alloc_new w _)]
  rfl
theorem tot_one (m : Nat) : tot (fun _ => m) 1 = m := by simp [tot]
theorem digest_one (m : Nat) (Y : Nat → Nat) : digest (tot (fun _ => m) 1) (jn (fun _ => m) (fun _ => Y) 1) = digest m Y := by
  rw [tot_one]
  refine digest_congr (fun i _ => ?_)
  simp [jn, cat, tot]

/-- a list of bytes at a stroke -/
theorem sum_one (w : World) (A : Option Addr) (b off m c t cap : Nat) (Y : Nat → Nat) (hv : View w A b off m (fun i => (Y i : Int))) (hc : m ≤ c) (hY : ∀ i, Y i < 256) (hF : First w) (hK : Roots w) (hw : 3 < w.heap.size) :
    Calls Tryz.prog 57 #[.slice (some ⟨w.heap.size, 0, none⟩) 1 cap] (w.alloc (.cells #[.slice A m c] t)) fun e w' => e = .returned (.agg (hashA (digest m Y))) ∧ Below (w.alloc (.cells #[.slice A m c] t)).heap.size (w.alloc (.cells #[.slice A m c] t)) w' := by
  have b0 : Below w.heap.size w (w.alloc (.cells #[.slice A m c] t)) := (Below.refl _ _).alloc (Nat.le_refl _) _
  have h := sums_any _ _ _ _ 1 cap _ _ _ _ _ _ (parts_one hv hc hY t) (hK.below b0 hw) (hF.below b0 (by omega)) (by simp; omega) (by omega) (by rw [tot_one]; have := hv.len; omega)
  rw [digest_one] at h
  exact h

theorem ch {a b c : World} (h1 : Below a.heap.size a b) (h2 : Below b.heap.size b c) : Below a.heap.size a c := h1.trans (h2.mono h1.size)
theorem hashA_one (s : W8) : (hashA s).all (·.oneCell') = true := all_one (fun i hi => ⟨_, _, hashA_cell _ i (by rw [hashA_size] at hi; exact hi)⟩)
theorem hashA_info (s : W8) : (Tryz.prog.info? 38).map (·.size) = some (hashA s).size := by rw [hashA_size]; exact info26
theorem Z32_hash (s : W8) : Z32.size = (hashA s).size := by rw [hashA_size]; rfl
/-- a hash in a block of its own -/
def HashAt (w : World) (g : Nat) (s : W8) : Prop := w.heap[g]? = some (.cells (hashA s) 38 (0, 0))
theorem HashAt.below {w w' : World} {g : Nat} {s : W8} (h : HashAt w g s) (hb : Below w.heap.size w w') : HashAt w' g s := by
  have hg : g < w.heap.size := by
    by_cases e : g < w.heap.size
    · exact e
    · have hn : w.heap[g]? = none := by simp; omega
      unfold HashAt at h
      rw [hn] at h
      cases h
  exact (hb.block g hg).trans h
theorem HashAt.cells {w : World} {g : Nat} {s : W8} (h : HashAt w g s) : ∀ j, j < (hashA s).size → w.cell? ⟨g, j, none⟩ = (hashA s)[j]? := fun j _ => cell_of_row w g j _ 38 _ h
theorem hash_laid (w : World) (s : W8) : HashAt ((w.alloc (.cells Z32 38)).setRow w.heap.size (hashA s)) w.heap.size s ∧ Below w.heap.size w ((w.alloc (.cells Z32 38)).setRow w.heap.size (hashA s)) :=
  ⟨setRow_heap _ _ _ _ _ _ (heap_alloc_new _ _), below_setRow ((Below.refl _ _).alloc (Nat.le_refl _) _) (Nat.le_refl _) _⟩

theorem quiet_load {P : Program} {ops : Array Oper} {C : World → Prop} {Q : Act → Prop} {a : Act} {o : Oper} {rest : List Oper} (hw : Region.wanted o (yielded ops a.tmps) = true) (ty : TypeId) (x : Operand) (ho : o.op = .load ty x)
    (g : Nat) (hx : a.eval x = .pointer (some ⟨g, 0, none⟩)) (cs : Array Value) (d : TypeDesc) (hc : ∀ w, C w → ∀ j, j < cs.size → w.cell? ⟨g, j, none⟩ = cs[j]?)
    (hu : P.underlying ty = some d) (hd : (match d with | .struct _ | .array _ _ => true | _ => false) = true) (hi : (P.info? ty).map (·.size) = some cs.size)
    (h : wpQuiet P ops C Q rest (a.put o.dst (.agg cs))) : wpQuiet P ops C Q (o :: rest) a := by
  refine wpQuiet_step fun K hK => ?_
  rw [if_pos hw]
  refine ⟨.agg cs, fun w hC => ?_, hK _ h⟩
  unfold Oper.quietAt execOp
  simp only [ho, hx, Instr.loadAt, Instr.sureAddr, Sem.run_bind, Sem.run_pure, Result.andThen_ok, run_loadVar_cells w g ty cs d (hc w hC) hu hd hi]
  exact ⟨rfl, rfl⟩

end Go.Proofs.YtpmdjopojcgpeaaGreatDoor.Dg
