import Derived.Test.YtcnhinnpieehoaaGreatDoorQShazz
import Derived.Test.YtcnhinnpieehoaaGreatDoorChecked
import Derived.Test.YtcnhinnpieehoaaGreatDoorNItmzz
import Derived.WalkKit
import Derived.Deep.OwnRows
import Derived.Deep.LoopGhost
import Derived.Deep.QuietTactic
import Derived.BigQuiet
import Derived.Deep.Light
import Derived.Laws.BytesArg
import Derived.WalkSmall
import Derived.Deep.RegionHeld3
import Derived.Deep.AppendLies
import Derived.Laws.AppendOwnNone
import Derived.Deep.DeepHandedRow
import Derived.ProofKit
import Derived.Laws.CopyOwn
import Derived.OwnWalk
import Derived.ArgAppend
import Derived.Deep.MidRow
import Derived.Lib.QuietBelow
import Derived.Laws.Bits64b
namespace Go.Ev
open Go
theorem growBy_le (n : Nat) : ∀ (r c : Nat), c < n ∨ 4 * c ≤ 5 * n + 3072 → 4 * Builtin.growBy n r c ≤ 5 * n + 3072
 | 0, c, h => by unfold Builtin.growBy; omega
 | r + 1, c, h => by
  unfold Builtin.growBy
  split
  ·omega
  ·exact growBy_le n r _ (.inr (by omega))
theorem nextcap_le {need old : Nat} (h : old < need) : 4 * Builtin.nextslicecap need old ≤ 5 * need + 3072 := by
 unfold Builtin.nextslicecap
 split
 ·omega
 ·split
  ·omega
  ·exact growBy_le need 4 old (.inl h)
def notInt : TypeDesc → Bool
 | .int _ => false
 | _ => true
section
variable {P : Program} {E : En} {ts : Array TypeId} {ty t u e : TypeId} {d : TypeDesc} {size k n c : Nat} {base : Option Addr} {y' : Value} {new' : List Value} {w : World}
theorem run_append_in {w' : World} (h0 : ts[0]? = some t) (hu : P.underlying t = some (.slice e)) (h1 : ts[1]? = some u) (hd : P.underlying u = some d) (hz : notInt d = true) (hs : sizeOfT P e = some size)
  (hl : ∀ w, (Builtin.lenOf y').run P w = .ok k w) (hn : (Builtin.firstCells size k y').run P w = .ok ⟨new'⟩ w) (hle : n + k ≤ c)
  (hw : ((match base with
   | some a => storeCells (a.add (n * size)) new'
   | none => pure ()) : Sem Unit).run P w = .ok () w') :
  (Builtin.append_ ts ty ⟨[.slice base n c, y']⟩).run P w = .ok (.slice base (n + k) c) w' := by
 cases d <;> first | (cases hz; done) | skip
 all_goals
  simp only [Builtin.append_, Sem.run_bind, Sem.run_pure, Result.andThen_ok, h0, h1, List.getElem?_toArray, List.getElem?_cons_zero, List.getElem?_cons_succ, run_underlying hu, run_underlying hd, run_sizeOf w hs, Bool.false_eq_true, if_false, hl w, Bool.not_false, if_true, hn, hle]
  cases base with
  | none => cases hw; rfl
  | some a =>
   simp only at hw
   simp only [Sem.run_bind, hw, Result.andThen_ok, Sem.run_pure]
theorem run_append_new {old' : List Value} {ti : TypeInfo} {z : Value} (h0 : ts[0]? = some t) (hu : P.underlying t = some (.slice e)) (h1 : ts[1]? = some u) (hd : P.underlying u = some d) (hz : notInt d = true) (hs : sizeOfT P e = some size)
  (hl : ∀ w, (Builtin.lenOf y').run P w = .ok k w) (hn : (Builtin.firstCells size k y').run P { w with drawn := w.drawn + 1 } = .ok ⟨new'⟩ { w with drawn := w.drawn + 1 })
  (ho : (Builtin.firstCells size n (.slice base n c)).run P { w with drawn := w.drawn + 1 } = .ok ⟨old'⟩ { w with drawn := w.drawn + 1 })
  (hle : ¬ n + k ≤ c) (hsm : (5 * (n + k) + 3072) * ti.bytes ≤ 1125899906842624) (hti : P.info? e = some ti) (hby : n + k ≤ 4611686018427387904) (hzv : ti.zero = some z) :
  ∃ cp, n + k ≤ cp ∧ (Builtin.append_ ts ty ⟨[.slice base n c, y']⟩).run P w = .ok (.slice (some ⟨w.heap.size, 0, none⟩) (n + k) cp) { w with drawn := w.drawn + 1, heap := w.heap.push (.cells (⟨old'⟩ ++ ⟨new'⟩ ++ Builtin.zeroCells z.cells (cp - (n + k))) e) } := by
 have hmx : ¬ (((n + k : Nat) : Int) > IntKind.i64.max) := by
  intro h
  have : IntKind.i64.max = 9223372036854775807 := by decide
  rw [this] at h
  omega
 have hnx : ¬ (Builtin.nextslicecap (n + k) c * ti.bytes > 2 ^ 48) := by
  have h1 := nextcap_le (show c < n + k by omega)
  have h2 : (4 * Builtin.nextslicecap (n + k) c) * ti.bytes ≤ (5 * (n + k) + 3072) * ti.bytes := Nat.mul_le_mul_right _ h1
  rw [Nat.mul_assoc] at h2
  omega
 have hty : ∀ w : World, (typeInfo e).run P w = .ok ti w := fun w => by simp [typeInfo, hti]
 refine ⟨(Question.appendCap (n + k) c e).cut (w.tape w.drawn (.appendCap (n + k) c e)), Nat.le_add_right _ _, ?_⟩
 have hzr : ∀ w : World, (zeroValue e).run P w = .ok z w := fun w => by simp [zeroValue, typeInfo, hti, hzv]
 cases d <;> first | (cases hz; done) | skip
 all_goals
  simp only [Builtin.append_, Sem.run_bind, Sem.run_pure, Result.andThen_ok, h0, h1, List.getElem?_toArray, List.getElem?_cons_zero, List.getElem?_cons_succ, run_underlying hu, run_underlying hd, run_sizeOf w hs, Bool.false_eq_true, if_false, hl w, Bool.not_false, if_true, hle, hty, hmx, false_and, hnx, run_choose, Question.forced, run_askRoom, ho, hn, hzr, newRow, run_newObj]
end
end Go.Ev
namespace Go.Proofs.YtcnhinnpieehoaaGreatDoor.Nz
open Go.RowKit
theorem ch {a b c : World} (h1 : Below a.heap.size a b) (h2 : Below b.heap.size b c) : Below a.heap.size a c := h1.trans (h2.mono h1.size)
theorem Tryz.info5 : (Tryz.prog.info? 5).map (fun i => (i.zero, i.size, i.bytes)) = some (some (.int .u8 0), 1, 1) := by kernel_rfl
structure View (w : World) (a : Option Addr) (b off n : Nat) (Z : Nat → Int) : Prop where
 at_ : 0 < n → a = some ⟨b, off, none⟩
 cell : ∀ i, i < n → w.cell? ⟨b, off + i, none⟩ = some (.int .u8 (Z i))
 bd : ∀ i, i < n → 0 ≤ Z i ∧ Z i ≤ 255
 len : n ≤ 281474976710656
theorem View.lt {w : World} {a : Option Addr} {b off n : Nat} {Z : Nat → Int} (h : View w a b off n Z) (hn : 0 < n) : b < w.heap.size :=
 World.block_lt_of_cell? _ _ (h.cell 0 hn)
theorem View.of_cells {w w' : World} {a : Option Addr} {b off n : Nat} {Z : Nat → Int} (h : View w a b off n Z) (hc : ∀ p : Addr, p.block < w.heap.size → w'.cell? p = w.cell? p) : View w' a b off n Z :=
 ⟨h.at_, fun i hi => (hc _ (h.lt (by omega))).trans (h.cell i hi), h.bd, h.len⟩
theorem View.drewN {w : World} {a : Option Addr} {b off n : Nat} {Z : Nat → Int} (h : View w a b off n Z) (q : Nat) : View (w.drewN q) a b off n Z :=
 h.of_cells fun p _ => by simp
theorem View.below {w w' : World} {a : Option Addr} {b off n : Nat} {Z : Nat → Int} (h : View w a b off n Z) (hb : Below w.heap.size w w') : View w' a b off n Z :=
 h.of_cells fun _ hp => hb.cell hp
theorem View.congr {w : World} {a : Option Addr} {b off n : Nat} {Z Y : Nat → Int} (h : View w a b off n Z) (e : ∀ i, i < n → Z i = Y i) : View w a b off n Y :=
 ⟨h.at_, fun i hi => by rw [← e i hi]; exact h.cell i hi, fun i hi => by rw [← e i hi]; exact h.bd i hi, h.len⟩
structure Turn (F : Nat → Prop) (w w' : World) : Prop where
 os : w'.os = w.os
 tape : w'.tape = w.tape
 output : w'.output = w.output
 size : w.heap.size ≤ w'.heap.size
 block : ∀ k, k < w.heap.size → ¬ F k → w'.heap[k]? = w.heap[k]?
theorem Turn.refl (F : Nat → Prop) (w : World) : Turn F w w := ⟨rfl, rfl, rfl, Nat.le_refl _, fun _ _ _ => rfl⟩
theorem Turn.trans {F G : Nat → Prop} {a b c : World} (h : Turn F a b) (k : Turn G b c) (hG : ∀ i, G i → F i ∨ a.heap.size ≤ i) : Turn F a c :=
 ⟨k.os.trans h.os, k.tape.trans h.tape, k.output.trans h.output, Nat.le_trans h.size k.size, fun i hi hF =>
  (k.block i (Nat.lt_of_lt_of_le hi h.size) (fun g => by rcases hG i g with q | q; exact hF q; omega)).trans (h.block i hi hF)⟩
theorem Turn.mono {F G : Nat → Prop} {a b : World} (h : Turn F a b) (hFG : ∀ i, F i → G i ∨ a.heap.size ≤ i) : Turn G a b :=
 ⟨h.os, h.tape, h.output, h.size, fun i hi hG => h.block i hi (fun f => by rcases hFG i f with q | q; exact hG q; omega)⟩
theorem Turn.of_below {F : Nat → Prop} {w w' : World} (h : Below w.heap.size w w') : Turn F w w' := ⟨h.os, h.tape, h.output, h.size, fun k hk _ => h.block k hk⟩
theorem Turn.setCell {F : Nat → Prop} (w : World) (a : Addr) (v : Value) (hb : F a.block) : Turn F w (w.setCell a v) :=
 ⟨rfl, rfl, rfl, by simp [World.setCell], fun k _ hk => Below.heap_setCell _ _ _ _ (fun e => hk (e ▸ hb))⟩
theorem Turn.setRow {F : Nat → Prop} (w : World) (g : Nat) (cs : Array Value) (hb : F g) : Turn F w (w.setRow g cs) :=
 ⟨rfl, rfl, rfl, by simp, fun k _ hk => setRow_other w g k cs (fun e => hk (e ▸ hb))⟩
theorem Turn.alloc {F : Nat → Prop} (w : World) (o : Obj) : Turn F w (w.alloc o) := Turn.of_below ((Below.refl _ _).alloc (Nat.le_refl _) _)
theorem Turn.drewN {F : Nat → Prop} (w : World) (q : Nat) : Turn F w (w.drewN q) := ⟨rfl, rfl, rfl, Nat.le_refl _, fun _ _ _ => rfl⟩
theorem Turn.drew {F : Nat → Prop} (w : World) : Turn F w w.drew := ⟨rfl, rfl, rfl, Nat.le_refl _, fun _ _ _ => rfl⟩
theorem Turn.below {F : Nat → Prop} {w w' : World} (h : Turn F w w') {B : Nat} (hF : ∀ i, F i → B ≤ i) (hB : B ≤ w.heap.size) : Below B w w' :=
 ⟨h.os, h.tape, h.output, h.size, fun k hk => h.block k (by omega) (fun f => by have := hF k f; omega)⟩
theorem Turn.cell {F : Nat → Prop} {w w' : World} (h : Turn F w w') {q : Addr} (hq : q.block < w.heap.size) (hp : ¬ F q.block) : w'.cell? q = w.cell? q := World.cell?_of_block (w := w) (h.block q.block hq hp)
theorem View.turn {F : Nat → Prop} {w w' : World} {a : Option Addr} {b off n : Nat} {Z : Nat → Int} (h : View w a b off n Z) (hs : Turn F w w') (hb : 0 < n → ¬ F b) : View w' a b off n Z :=
 ⟨h.at_, fun i hi => (hs.cell (q := ⟨b, off + i, none⟩) (h.lt (by omega)) (hb (by omega))).trans (h.cell i hi), h.bd, h.len⟩
theorem own_turn {F : Nat → Prop} {w w' : World} {base e size n : Nat} {v : Value} {xs : List Value} (h : w.ownsRow base e size v n xs) (hs : Turn F w w') (hv : ∀ g, v.ownBlock = some g → ¬ F g) : w'.ownsRow base e size v n xs := by
 have hlt := h.lt
 obtain ⟨h1, h2⟩ := h
 refine ⟨h1, ?_⟩
 rcases h2 with hn | ⟨g, cap, cur, rfl, hb, hg, rest⟩
 ·exact Or.inl hn
 ·exact Or.inr ⟨g, cap, cur, rfl, hb, (hs.block g (hlt g rfl).2 (hv g rfl)).trans hg, rest⟩
def Bs (s : List Nat) : Prop := s.length ≤ 281474976710656 ∧ ∀ x ∈ s, x < 256
def bv (s : List Nat) : List Value := s.map (fun x : Nat => Value.int .u8 (x : Int))
theorem bv_len (s : List Nat) : (bv s).length = s.length := by simp [bv]
theorem gd_lt {s : List Nat} (h : ∀ x ∈ s, x < 256) (i : Nat) : gd s i < 256 := by
 unfold gd
 rw [List.getD_eq_getElem?_getD]
 cases hi : s[i]? with
 | none => decide
 | some x => exact h x (List.mem_of_getElem? hi)
theorem bv_at {s : List Nat} {i : Nat} (h : i < s.length) : (bv s)[i]? = some (.int .u8 (gd s i : Nat)) := by
 unfold bv
 rw [List.getElem?_map, List.getElem?_eq_getElem h, gd_get h]
 rfl
abbrev Vw (w : World) (a : Option Addr) (b off : Nat) (s : List Nat) : Prop := View w a b off s.length (fun i => ((gd s i : Nat) : Int))
theorem vw_ok {w : World} {a : Option Addr} {b off : Nat} {s : List Nat} (h : Vw w a b off s) : Bs s :=
 ⟨h.len, fun x hx => by
  obtain ⟨i, hi, rfl⟩ := List.getElem_of_mem hx
  have := h.bd i hi
  rw [gd_get hi]
  omega⟩
def lst (n : Nat) (Y : Nat → Nat) : List Nat := (List.range n).map Y
structure Str (w : World) (F : Nat → Prop) (u : Value) (s : List Nat) : Prop where
 own : w.ownsRow 0 5 1 u s.length (bv s)
 foot : ∀ g, u.ownBlock = some g → F g
 ok : Bs s
theorem Str.view {w : World} {F : Nat → Prop} {u : Value} {s : List Nat} (h : Str w F u s) : ∃ a g c, u = .slice a s.length c ∧ s.length ≤ c ∧ Vw w a g 0 s ∧ (0 < s.length → F g ∧ g < w.heap.size) := by
 have hf := h.foot
 have hl := h.own.lt
 obtain ⟨hn, ho⟩ := h.own
 rcases ho with ⟨rfl, h0⟩ | ⟨g, cap, cur, rfl, hb, hg, h1, h2, h3, h4⟩
 ·refine ⟨none, 0, 0, by rw [h0], by omega, ⟨fun k => by omega, fun i hi => by omega, fun i hi => by omega, by omega⟩, fun k => by omega⟩
 ·refine ⟨_, g, cap, rfl, h1, ⟨fun _ => rfl, fun i hi => ?_, fun i hi => ?_, h.ok.1⟩, fun _ => ⟨hf g rfl, (hl g rfl).2⟩⟩
  ·have := h.own.cells (g := g) rfl i _ (bv_at hi)
   rw [show (⟨g, 0, none⟩ : Addr).add i = ⟨g, 0 + i, none⟩ by unfold Addr.add; split <;> simp_all] at this
   exact this
  ·have := gd_lt h.ok.2 i
   omega
theorem Str.turn {F G : Nat → Prop} {w w' : World} {u : Value} {s : List Nat} (h : Str w F u s) (hs : Turn G w w') (hd : ∀ i, F i → i < w.heap.size → ¬ G i) : Str w' F u s :=
 ⟨own_turn h.own hs (fun g hg => hd g (h.foot g hg) (h.own.lt g hg).2), h.foot, h.ok⟩
theorem Str.mono {F G : Nat → Prop} {w : World} {u : Value} {s : List Nat} (h : Str w F u s) (hd : ∀ i, F i → G i) : Str w G u s := ⟨h.own, fun g hg => hd g (h.foot g hg), h.ok⟩
theorem Str.one {F : Nat → Prop} {w : World} {u : Value} {s : List Nat} (h : Str w F u s) : u.oneCell' = true := by
 rcases h.own.2 with ⟨rfl, _⟩ | ⟨g, cap, cur, rfl, _⟩ <;> rfl
theorem Str.ne {F : Nat → Prop} {w : World} {u : Value} {s : List Nat} (h : Str w F u s) {g : Nat} {cs : Array Value} {t : TypeId} {fz : Nat × Nat} (hg : w.heap[g]? = some (.cells cs t fz)) (ht : t ≠ 5) : u.ownBlock ≠ some g := by
 intro e
 rcases h.own.2 with ⟨rfl, _⟩ | ⟨g', cap, cur, rfl, _, hg', _⟩
 ·simp [Value.ownBlock] at e
 ·simp only [Value.ownBlock, Option.some.injEq] at e
  subst e
  rw [hg] at hg'
  injection hg' with hg'
  injection hg' with _ h2
  exact ht h2
def vals (Y : Nat → Int) (j : Nat) : List Value := (List.range j).map (fun i => Value.int .u8 (Y i))
def str (n : Nat) (Z : Nat → Int) : ByteArray := strOfNums ((List.range n).map Z)
theorem vals_cell {Y : Nat → Int} {n j : Nat} {u : Value} (hu : (vals Y n)[j]? = some u) : j < n ∧ u = .int .u8 (Y j) := by
 have hj : j < n := by
  rcases Nat.lt_or_ge j n with x | x
  ·exact x
  ·rw [List.getElem?_eq_none (by simpa [vals] using x)] at hu; cases hu
 refine ⟨hj, ?_⟩
 unfold vals at hu
 rw [List.getElem?_map, List.getElem?_range hj] at hu
 exact (Option.some.inj hu).symm
theorem vals_one {Y : Nat → Int} {n : Nat} : ∀ u ∈ vals Y n, u.oneCell' = true := by
 intro u hu
 obtain ⟨i, _, rfl⟩ := List.mem_map.1 hu
 rfl
theorem grown_below {B : Nat} {w w' : World} {v : Value} {e size n : Nat} {xs : List Value} {B0 : Nat} (hg : w.grownBy w' v.ownBlock) (ho : w.ownsRow B0 e size v n xs) (h0 : B ≤ B0) (hB : B ≤ w.heap.size) : Below B w w' :=
 ⟨hg.os, hg.tape, hg.output, hg.size, fun k hk => hg.block k (by omega) (fun e => by have := (ho.lt k e.symm).1; omega)⟩
theorem wpList_append_bytes {w : World} {ops : Array Oper} {rest : List Oper} {o : Oper} {a : Act} {Q : Exit → Act → World → Prop} (hgd : o.guard = none) (s x : Operand)
  (ho : o.op = .call { callee := .builtin .append, args := #[s, x], argTypes := #[33, 33] }) (base : Nat) (v : Value) (k : Nat) (xs : List Value) (hs : a.eval s = v) (hown : w.ownsRow base 5 1 v k xs)
  (sa : Option Addr) (b off n c : Nat) (Y : Nat → Int) (hx : a.eval x = .slice sa n c) (hv : View w sa b off n Y) (hnil : sa = none → c = 0) (hk : k + n ≤ 140737488355328) (hbase : base ≤ w.heap.size)
  (h : ∀ v' w', w'.ownsRow base 5 1 v' (k + n) (xs ++ vals Y n) → w.grownBy w' v.ownBlock → (v' = .slice none 0 0 → v = .slice none 0 0) → wpList Tryz.prog ops Q rest (a.put o.dst v') w') : wpList Tryz.prog ops Q (o :: rest) a w := by
 obtain ⟨i0, hi0, hz0, hz1, hz2⟩ := info_parts Tryz.info5
 cases sa with
 | none =>
  have hn : n = 0 := by
   rcases Nat.eq_zero_or_pos n with e | e
   ·exact e
   ·cases hv.at_ e
  subst hn
  obtain rfl := hnil rfl
  refine wpList_append_own_none hgd s x 33 ho base 5 i0 1 Tryz.underlying33 hi0 v k xs hs hown hx ?_
  refine h v w ?_ ⟨rfl, rfl, rfl, Nat.le_refl _, fun _ _ _ => rfl⟩ id
  simpa [vals] using hown
 | some p =>
  refine wpList_append_own _ hgd s x 33 ho base 5 i0 (.int .u8 0) 1 1 Tryz.underlying33 hi0 hz0 hz1 hz2 rfl (by decide) v k xs hs hown p n c (vals Y n) hx (by simp [vals]) ?_ vals_one (by unfold maxLen; omega) (by omega) hbase (fun v' w' h1 h2 h3 => h v' w' h1 h2 (fun e => (h3.1 e).1))
  intro j u hu
  obtain ⟨hj, rfl⟩ := vals_cell hu
  have hp : p = ⟨b, off, none⟩ := Option.some.inj (hv.at_ (by omega))
  subst hp
  rw [Go.WideShapes.add_plain]
  exact hv.cell j hj
theorem info5size : (Tryz.prog.info? 5).map (·.size) = some 1 := by kernel_rfl
theorem own_base {w : World} {B e size n : Nat} {v : Value} {xs : List Value} (h : w.ownsRow B e size v n xs) : w.ownsRow 0 e size v n xs := by
 refine ⟨h.1, ?_⟩
 rcases h.2 with q | ⟨g, cap, cur, hv, hb, r⟩
 ·exact Or.inl q
 ·exact Or.inr ⟨g, cap, cur, hv, Nat.zero_le _, r⟩
theorem own_rebase {w : World} {B C e size n : Nat} {v : Value} {xs : List Value} (h : w.ownsRow B e size v n xs) (hc : ∀ g, v.ownBlock = some g → C ≤ g) : w.ownsRow C e size v n xs := by
 refine ⟨h.1, ?_⟩
 rcases h.2 with q | ⟨g, cap, cur, hv, hb, r⟩
 ·exact Or.inl q
 ·exact Or.inr ⟨g, cap, cur, hv, hc g (by rw [hv]; rfl), r⟩
theorem own_slice {w : World} {B e s n : Nat} {v : Value} {xs : List Value} (h : w.ownsRow B e s v n xs) : ∃ a c, v = .slice a n c := by
 rcases h.2 with ⟨rfl, h0⟩ | ⟨g, cap, cur, rfl, _⟩
 ·exact ⟨none, 0, by rw [h0]⟩
 ·exact ⟨_, cap, rfl⟩
theorem add_flat (g i : Nat) : (⟨g, 0, none⟩ : Addr).add i = ⟨g, i, none⟩ := by unfold Addr.add; split <;> simp_all
def Sep (u v : Value) : Prop := ∀ g, u.ownBlock = some g → v.ownBlock ≠ some g
theorem Sep.symm {u v : Value} (h : Sep u v) : Sep v u := fun g h1 h2 => h g h2 h1
theorem vals_bv (s : List Nat) : vals (fun i => ((gd s i : Nat) : Int)) s.length = bv s := by
 apply List.ext_getElem?
 intro i
 by_cases h : i < s.length
 ·rw [bv_at h]
  unfold vals
  rw [List.getElem?_map, List.getElem?_range h]
  rfl
 ·rw [List.getElem?_eq_none (by simp [vals]; omega), List.getElem?_eq_none (by simp [bv]; omega)]
theorem elem24 : Tryz.prog.elem 33 = 5 := by kernel_rfl
theorem size5 (w : World) : (sizeOf 5).run Tryz.prog w = .ok 1 w := by
 have := info5size
 cases hq : Tryz.prog.info? 5 with
 | none => simp [hq] at this
 | some i => simp [hq] at this; simp [sizeOf, typeInfo, hq, this]
theorem slice_upto (a : Option Addr) (n c K : Nat) (h : K ≤ c) (w : World) : (Instr.slice 33 (.slice a n c) none (some (.int .i64 K)) none).run Tryz.prog w = .ok (.slice a K c) w := by
 rw [run_slice_h w 33 a n c (by rw [elem24]; exact Tryz.underlying33) .i64 K (by omega) (by omega), elem24, size5]
 simp only [Result.andThen, sliced]
 congr 1
 cases a <;> simp [Addr.add]
def behind (a : Option Addr) (c K : Nat) : Option Addr := if c = K then a else a.map (·.add K)
open Go.RowKit
set_option maxRecDepth 100000 in
set_option maxHeartbeats 800000 in
theorem alone_any (w : World) (a : Option Addr) (b off c : Nat) (s : List Nat) (hv : Vw w a b off s) :
  Calls Tryz.prog 90 #[.slice a s.length c] w fun e w' => e = .returned (.bool (alone s)) ∧ w' = w := by
 by_cases h1 : s.length = 1
 ·obtain rfl := hv.at_ (by omega)
  have c0 := hv.cell 0 (by omega)
  have ea : alone s = decide (gd s 0 < 128) := by simp [alone, h1]
  rw [ea, h1]
  generalize gd s 0 = x at c0
  clear hv ea h1
  rw [Nat.add_zero] at c0
  by_cases h2 : x < 128
  ·have h2' : (x : Int) < 128 := by omega
   rw [decide_eq_true h2]
   go_enter Tryz.func90, Tryz.ntmps90
   go_wp2_with fail
   go_ret
   exact ⟨rfl, rfl⟩
  ·have h2' : ¬ (x : Int) < 128 := by omega
   rw [decide_eq_false h2]
   go_enter Tryz.func90, Tryz.ntmps90
   go_wp2_with fail
   go_ret
   exact ⟨rfl, rfl⟩
 ·have ea : alone s = false := by simp [alone, h1]
  rw [ea]
  have hn : ¬ ((s.length : Int) = 1) := by omega
  generalize s.length = n at hn
  clear hv ea h1
  go_enter Tryz.func90, Tryz.ntmps90
  go_wp2_with fail
  go_ret
  exact ⟨rfl, rfl⟩
theorem num_lt {s : List Nat} (h : ∀ x ∈ s, x < 256) : num s < 256 ^ s.length := by
 suffices ∀ (m : Nat) (s : List Nat), s.length = m → (∀ x ∈ s, x < 256) → num s < 256 ^ m from this _ s rfl h
 intro m
 induction m with
 | zero =>
   intro s h _
   obtain rfl : s = [] := List.eq_nil_of_length_eq_zero h
   decide
 | succ m ih =>
  intro s hl hb
  obtain ⟨t, x, rfl⟩ : ∃ t x, s = t ++ [x] := ⟨s.dropLast, s.getLast (by intro e; simp [e] at hl), (List.dropLast_concat_getLast _).symm⟩
  have := ih t (by simpa using hl) (fun y hy => hb y (by simp [hy]))
  have := hb x (by simp)
  rw [num_app1, Nat.pow_succ]
  omega
theorem take_gd {s : List Nat} {i : Nat} (h : i < s.length) : s.take (i + 1) = s.take i ++ [gd s i] := by rw [List.take_succ_eq_append_getElem h, gd_get h]
theorem num_take {s : List Nat} {i : Nat} (h : i < s.length) : num (s.take (i + 1)) = num (s.take i) * 256 + gd s i := by rw [take_gd h, num_app1]
theorem or_byte (m x : Nat) (hm : m < 72057594037927936) (hx : x < 256) : bits .or .u64 ((m : Int) * 256) (x : Int) = ((m * 256 + x : Nat) : Int) := by
 have e : ((m : Int) * 256) = ((m * 256 : Nat) : Int) := by omega
 rw [e, bits_or_u64_nat _ _ (by omega) (by omega)]
 have : m * 256 ||| x = m * 256 + x := by
  have := Nat.two_pow_add_eq_or_of_lt (i := 8) (b := x) (by omega) m
  rw [show 2 ^ 8 * m = m * 256 by omega] at this
  exact this.symm
 rw [this]
set_option maxRecDepth 100000 in
set_option maxHeartbeats 800000 in
theorem numberOf_any (w : World) (a : Option Addr) (b off c : Nat) (s : List Nat) (hv : Vw w a b off s) (h8 : s.length ≤ 8) :
  Calls Tryz.prog 103 #[.slice a s.length c] w fun e w' => e = .returned (.int .u64 (num s)) ∧ w' = w := by
 have HV : Hid (Vw w a b off s) := hv
 obtain ⟨n, en⟩ : ∃ n, n = s.length := ⟨_, rfl⟩
 have HN : Hid (n = s.length) := en
 rw [← en]
 have h8' : n ≤ 8 := by omega
 clear hv h8 en
 go_enter Tryz.func103, Tryz.ntmps103
 go_wp2_with fail
 go_loopg [3, 8] n (fun gg u k wr => ∃ (i : Nat), i ≤ n ∧ gg = n - i ∧ u = .int .u64 (num (s.take i)) ∧ k = .int .i64 i ∧ wr = w)
 case atStart => exact ⟨0, Nat.zero_le _, rfl, rfl, rfl, rfl⟩
 case round =>
  obtain ⟨i, hi, rfl, rfl, rfl, ewr⟩ := hrel
  subst ewr
  by_cases h0 : i < n
  ·have i1 : (i : Int) < (n : Int) := by omega
   obtain rfl := HV.out.at_ (by have := HN.out; omega)
   have c0 := HV.out.cell i (by have := HN.out; omega)
   have hb := (vw_ok HV.out).2
   have hx := gd_lt hb i
   have ht := num_lt (s := s.take i) (fun x hx => hb x (List.mem_of_mem_take hx))
   have e2 : num (s.take (i + 1)) = num (s.take i) * 256 + gd s i := num_take (by have := HN.out; omega)
   have hl : (s.take i).length = i := by simp; have := HN.out; omega
   rw [hl] at ht
   have ht2 : num (s.take i) < 72057594037927936 := Nat.lt_of_lt_of_le ht (by
    have : (72057594037927936 : Nat) = 256 ^ 7 := by decide
    rw [this]
    exact Nat.pow_le_pow_right (by decide) (by omega))
   have HE : Hid (num (s.take (i + 1)) = num (s.take i) * 256 + gd s i) := e2
   clear e2 ht hl hb
   generalize num (s.take i) = m at *
   generalize gd s i = x at *
   have HO : Hid (bits .or .u64 ((m : Int) * 256) (x : Int) = ((m * 256 + x : Nat) : Int)) := or_byte m x ht2 hx
   go_wp2_with fail
   go_roundg (n - (i + 1))
   case measure => omega
   case rel => exact ⟨i + 1, h0, rfl, by rw [HE.out, HO.out], by go_num, rfl⟩
  ·have e0 : i = n := by omega
   have e2 : num (s.take i) = num s := by rw [List.take_of_length_le (by have := HN.out; omega)]
   have HE : Hid (num (s.take i) = num s) := e2
   have i1 : ¬ (i : Int) < (n : Int) := by omega
   clear e2
   go_wp2_with fail
   go_ret
   exact ⟨by rw [← HE.out, e0]; rfl, rfl⟩
open Go.RowKit
def Rm (w : World) (g : Nat) (t : List Nat) : Prop := w.heap[g]? = some (.cells (bv t).toArray 5 (0, 0))
theorem Rm.turn {w w' : World} {g : Nat} {t : List Nat} {F : Nat → Prop} (h : Rm w g t) (k : Turn F w w') (hg : ¬ F g) : Rm w' g t := by
 have hl : g < w.heap.size := (Array.getElem?_eq_some_iff.1 h).1
 exact (k.block g hl hg).trans h
theorem Rm.lt {w : World} {g : Nat} {t : List Nat} (h : Rm w g t) : g < w.heap.size := (Array.getElem?_eq_some_iff.1 h).1
theorem Rm.below {w w' : World} {g : Nat} {t : List Nat} (h : Rm w g t) (k : Below w.heap.size w w') : Rm w' g t := (k.block g h.lt).trans h
structure Made (w w' : World) (g : Nat) (t : List Nat) : Prop where
 room : Rm w' g t
 new : w.heap.size ≤ g
 below : Below w.heap.size w w'
theorem Rm.view {w : World} {g : Nat} {t : List Nat} (h : Rm w g t) (hb : ∀ x ∈ t, x < 256) (hl : t.length ≤ 281474976710656) : Vw w (some ⟨g, 0, none⟩) g 0 t :=
 ⟨fun _ => rfl, fun i hi => by
  rw [Nat.zero_add, cell_of_row _ _ _ _ 5 _ h]
  simpa using bv_at hi, fun i _ => by have := gd_lt hb i; omega, hl⟩
theorem Rm.row {w : World} {g : Nat} {t : List Nat} (h : Rm w g t) : w.rowIs g 5 t.length (fun i => .int .u8 ((gd t i : Nat) : Int)) :=
 ⟨_, h, by simp [bv_len], fun i hi => by simpa using bv_at hi⟩
open Go.RowKit
end Go.Proofs.YtcnhinnpieehoaaGreatDoor.Nz
