import Derived.Test.YteldpcbhfbgomaaGreatDoorE6zz
import Derived.Laws.BitsLemmas
import Derived.Laws.Bits64
import Derived.Test.YteldpcbhfbgomaaGreatDoorQRWordszz
namespace Go.Ev
open Go
theorem pureRun_run {α : Type} {P : Program} : ∀ {m : Sem α} {a : α}, pureRun P m = some a → ∀ w, m.run P w = .ok a w := by
 intro m
 induction m with
 | pure b => intro a h w; cases h; rfl
 | program k ih => intro a h w; exact ih P (show pureRun P (k P) = some a from h) w
 | load => intro a h; cases h
 | store => intro a h; cases h
 | new => intro a h; cases h
 | shape => intro a h; cases h
 | freeze => intro a h; cases h
 | frozen => intro a h; cases h
 | getObj => intro a h; cases h
 | setObj => intro a h; cases h
 | choose => intro a h; cases h
 | sys => intro a h; cases h
 | mark => intro a h; cases h
 | halt => intro a h; cases h
section
variable {P : Program} {t : TypeId} (w : World)
theorem run_sizeOf {n : Nat} (h : sizeOfT P t = some n) : (sizeOf t).run P w = .ok n w := by
 unfold sizeOfT at h
 split at h
 ·rename_i i hi; cases h; simp [sizeOf, typeInfo, hi]
 ·cases h
theorem run_zeroValue {v : Value} (h : zeroOf P t = some v) : (zeroValue t).run P w = .ok v w := by
 unfold zeroOf at h
 split at h
 ·rename_i i hi; simp [zeroValue, typeInfo, hi, h]
 ·cases h
theorem run_isAgg {b : Bool} (h : isAggT P t = some b) : (isAgg t).run P w = .ok b w := by
 unfold isAggT at h
 cases hd : P.underlying t with
 | none => rw [hd] at h; cases h
 | some d =>
  rw [hd] at h
  cases d <;> cases h <;> simp [isAgg, underlying, hd]
end
def PuY (P : Program) (E : En) (f : St → Re) (m : Sem Value) : Prop :=
 (∀ s, f s = .no) ∨ ∃ v v', (∀ s, f s = .ok (.val v) s) ∧ VR E v v' ∧ ∀ w, m.run P w = .ok v' w
theorem PuY.no {P : Program} {E : En} {f : St → Re} {m : Sem Value} (h : ∀ s, f s = .no) : PuY P E f m := .inl h
theorem PuY.yes {P : Program} {E : En} {f : St → Re} {m : Sem Value} {v v' : Value} (h : ∀ s, f s = .ok (.val v) s) (hv : VR E v v') (hm : ∀ w, m.run P w = .ok v' w) : PuY P E f m := .inr ⟨v, v', h, hv, hm⟩
theorem PuY.ofO {P : Program} {E : En} {o : Option Value} {m : Sem Value} (h : ∀ v, o = some v → ∃ v', VR E v v' ∧ ∀ w, m.run P w = .ok v' w) : PuY P E (fun s => Ev.ofO o s) m := by
 cases o with
 | none => exact .no fun _ => rfl
 | some v => obtain ⟨v', h1, h2⟩ := h v rfl; exact .yes (fun _ => rfl) h1 h2
theorem okB_eq (b : Bool) (s : St) : okB b s = .ok (.val (.bool b)) s := by cases b <;> rfl
theorem okN_eq (k : IntKind) (n : Nat) (s : St) : okN k n s = .ok (.val (.int k (.ofNat n))) s := fN_eq n _
theorem ofI_eq (k : IntKind) (n : Int) (s : St) : ofI k n s = .ok (.val (.int k n)) s := fI_eq n _
theorem PuY.ofV {P : Program} {E : En} (v : Value) {m : Sem Value} (h : ∀ w, m.run P w = .ok v w) : PuY P E (fun s => Ev.ofV v s) m := by
 cases v with
 | int k n => exact .yes (v := .int k n) (fun s => ofI_eq k n s) (.int k n) h
 | bool b => exact .yes (v := .bool b) (fun s => okB_eq b s) (.bool b) h
 | string t => exact .yes (v := .string t) (fun s => rfl) (.str t) h
 | slice a l c => cases a with
  | none => exact .yes (v := .slice none l c) (fun s => rfl) (.snil l c) h
  | some a => exact .no fun _ => rfl
 | float => exact .no fun _ => rfl
 | complex => exact .no fun _ => rfl
 | pointer => exact .no fun _ => rfl
 | map => exact .no fun _ => rfl
 | chan => exact .no fun _ => rfl
 | func => exact .no fun _ => rfl
 | nilFunc => exact .no fun _ => rfl
 | iface => exact .no fun _ => rfl
 | nilIface => exact .no fun _ => rfl
 | agg => exact .no fun _ => rfl
 | tuple => exact .no fun _ => rfl
theorem PuY.ofPure {P : Program} {E : En} {m m' : Sem Value} (h : ∀ v, pureRun P m = some v → ∀ w, m'.run P w = .ok v w) : PuY P E (fun s => Ev.ofPure P m s) m' := by
 unfold Ev.ofPure
 cases e : pureRun P m with
 | none => exact .no fun _ => rfl
 | some v => exact PuY.ofV v (h v e)
theorem PuY.self {P : Program} {E : En} {m : Sem Value} : PuY P E (fun s => Ev.ofPure P m s) m := PuY.ofPure fun _ h => pureRun_run h
theorem wrapN_sound {k : IntKind} {n m : Nat} (h : wrapN k n = some m) : k.wrap (n : Int) = (m : Int) := by
 cases k <;> simp only [wrapN] at h
 case u8 => cases h; rw [IntKind.wrap_u8]; show (n : Int) % 256 = ((n % 256 : Nat) : Int); omega
 case u16 => cases h; simp only [IntKind.wrap, IntKind.bits, IntKind.signed]; show (if (false && _) = true then _ else (n : Int) % 65536) = ((n % 65536 : Nat) : Int); simp
 case u32 => cases h; rw [IntKind.wrap_u32]; show (n : Int) % 4294967296 = ((n % 4294967296 : Nat) : Int); omega
 case u64 => cases h; rw [IntKind.wrap_u64]; show (n : Int) % 18446744073709551616 = ((n % 18446744073709551616 : Nat) : Int); omega
 case i64 =>
  cases e : Nat.blt n 9223372036854775808 with
  | false => rw [e] at h; cases h
  | true =>
   rw [e] at h; cases h
   have : n < 9223372036854775808 := Nat.le_of_ble_eq_true e
   rw [IntKind.wrap_i64]; omega
 case i32 =>
  cases e : Nat.blt n 2147483648 with
  | false => rw [e] at h; cases h
  | true =>
   rw [e] at h; cases h
   have : n < 2147483648 := Nat.le_of_ble_eq_true e
   rw [IntKind.wrap_i32]; omega
 all_goals cases h
theorem modulus_bits {k : IntKind} (h : Nat.beq (modulus k) 0 = false) : k.signed = false ∧ modulus k = 2 ^ k.bits := by
 cases k <;> simp [modulus, IntKind.signed, IntKind.bits] at *
theorem wrap_add_mod {k : IntKind} (hs : k.signed = false) (x : Int) : k.wrap (x + 2 ^ k.bits) = k.wrap x := by
 simp [IntKind.wrap, hs]
theorem bits_eq {k : IntKind} {n m : Nat} (h : wrapN k n = some m) : bitsN k = k.bits := by
 cases k <;> first | rfl | (simp [wrapN] at h)
theorem kinds_eq {op : BinOp} {k k' : IntKind} (h : kinds op k k' = true) (h1 : op ≠ .shl) (h2 : op ≠ .shr) : k = k' := by
 have : Nat.beq (kNum k) (kNum k') = true := by
  cases op <;> first | exact h | exact absurd rfl h1 | exact absurd rfl h2
 have := Nat.eq_of_beq_eq_true this
 revert this
 cases k <;> cases k' <;> simp [kNum]
theorem ofInt_nat (w n : Nat) : BitVec.ofInt w (n : Int) = BitVec.ofNat w n := by simp
theorem arN_sound {P : Program} {op : BinOp} {t : TypeId} {k k' : IntKind} {a b n : Nat} (hk : kinds op k k' = true) (h : arN op k a b = some n) (w : World) :
  (binOp op t (.int k (.ofNat a)) (.int k' (.ofNat b))).run P w = .ok (.int k (.ofNat n)) w := by
 have hM : ∀ (x y : Nat), (BitVec.ofInt k.bits (Int.ofNat x)).toNat = x % 2 ^ k.bits := fun x _ => by
  show (BitVec.ofInt k.bits (x : Int)).toNat = _
  rw [ofInt_nat]; simp
 have bitop : ∀ (f : Nat → Nat → Nat) (x y : Nat), (∀ m, f (x % 2 ^ m) (y % 2 ^ m) = f x y % 2 ^ m) → wrapN k (f x y) = some n → k.wrap ((f (x % 2 ^ k.bits) (y % 2 ^ k.bits) : Nat) : Int) = (n : Int) := by
  intro f x y hf hw
  rw [hf]
  have h1 := wrapN_sound hw
  rw [← h1]
  have e : (((f x y % 2 ^ k.bits : Nat)) : Int) = (f x y : Int) % (2 ^ k.bits : Int) := by simp
  rw [e]
  simp [IntKind.wrap]
 cases op with
 | add =>
  obtain rfl := kinds_eq hk (by decide) (by decide)
  simp only [binOp, ne_eq, not_true_eq_false, if_false, Op.intArith, Sem.run_pure]
  have := wrapN_sound (show wrapN k (a + b) = some n from h)
  rw [show (Int.ofNat a + Int.ofNat b) = ((a + b : Nat) : Int) by simp, this]; rfl
 | mul =>
  obtain rfl := kinds_eq hk (by decide) (by decide)
  simp only [binOp, ne_eq, not_true_eq_false, if_false, Op.intArith, Sem.run_pure]
  have := wrapN_sound (show wrapN k (a * b) = some n from h)
  rw [show (Int.ofNat a * Int.ofNat b) = ((a * b : Nat) : Int) by simp, this]; rfl
 | sub =>
  obtain rfl := kinds_eq hk (by decide) (by decide)
  simp only [binOp, ne_eq, not_true_eq_false, if_false, Op.intArith, Sem.run_pure]
  have h' : subN k a b = some n := h
  unfold subN at h'
  cases e : Nat.ble b a with
  | true =>
   rw [e] at h'
   have hle := Nat.le_of_ble_eq_true e
   have := wrapN_sound (show wrapN k (a - b) = some n from h')
   rw [show (Int.ofNat a - Int.ofNat b) = ((a - b : Nat) : Int) by simp only [Int.ofNat_eq_natCast]; omega, this]; rfl
  | false =>
   rw [e] at h'
   cases e1 : Nat.beq (modulus k) 0 with
   | true => rw [e1] at h'; cases h'
   | false =>
    rw [e1] at h'
    cases e2 : Nat.ble b (Nat.add a (modulus k)) with
    | false => rw [e2] at h'; cases h'
    | true =>
     rw [e2] at h'
     have hle : b ≤ a + modulus k := Nat.le_of_ble_eq_true e2
     obtain ⟨hs, hm⟩ := modulus_bits e1
     have := wrapN_sound (show wrapN k (a + modulus k - b) = some n from h')
     rw [← wrap_add_mod hs]
     rw [show (Int.ofNat a - Int.ofNat b + 2 ^ k.bits) = ((a + modulus k - b : Nat) : Int) by
      have e3 : ((2 ^ k.bits : Nat) : Int) = (2 : Int) ^ k.bits := by simp
      rw [← e3, ← hm]; simp only [Int.ofNat_eq_natCast]; omega, this]; rfl
 | and =>
  obtain rfl := kinds_eq hk (by decide) (by decide)
  simp only [binOp, ne_eq, not_true_eq_false, if_false, Op.intBits, Sem.run_pure, BitVec.toNat_and, hM _ 0]
  rw [bitop (fun x y => x &&& y) a b (fun m => (Nat.and_mod_two_pow).symm) h]; rfl
 | or =>
  obtain rfl := kinds_eq hk (by decide) (by decide)
  simp only [binOp, ne_eq, not_true_eq_false, if_false, Op.intBits, Sem.run_pure, BitVec.toNat_or, hM _ 0]
  rw [bitop (fun x y => x ||| y) a b (fun m => (Nat.or_mod_two_pow).symm) h]; rfl
 | xor =>
  obtain rfl := kinds_eq hk (by decide) (by decide)
  simp only [binOp, ne_eq, not_true_eq_false, if_false, Op.intBits, Sem.run_pure, BitVec.toNat_xor, hM _ 0]
  rw [bitop (fun x y => x ^^^ y) a b (fun m => (Nat.xor_mod_two_pow).symm) h]; rfl
 | quo =>
  obtain rfl := kinds_eq hk (by decide) (by decide)
  have h' : cond (Nat.beq b 0) none (wrapN k (a / b)) = some n := h
  cases e : Nat.beq b 0 with
  | true => rw [e] at h'; cases h'
  | false =>
   rw [e] at h'
   have hb : b ≠ 0 := fun e2 => by subst e2; cases e
   have := wrapN_sound (show wrapN k (a / b) = some n from h')
   have hb' : (Int.ofNat b) ≠ 0 := by simp only [Int.ofNat_eq_natCast]; omega
   simp only [binOp, ne_eq, not_true_eq_false, if_false, Op.intDiv, hb', Sem.run_pure]
   rw [show (Int.ofNat a).tdiv (Int.ofNat b) = ((a / b : Nat) : Int) by simp, this]; rfl
 | rem =>
  obtain rfl := kinds_eq hk (by decide) (by decide)
  have h' : cond (Nat.beq b 0) none (some (a % b)) = some n := h
  cases e : Nat.beq b 0 with
  | true => rw [e] at h'; cases h'
  | false =>
   rw [e] at h'
   cases h'
   have hb : b ≠ 0 := fun e2 => by subst e2; cases e
   have hb' : (Int.ofNat b) ≠ 0 := by simp only [Int.ofNat_eq_natCast]; omega
   simp only [binOp, ne_eq, not_true_eq_false, if_false, Op.intDiv, hb', Sem.run_pure]
   rw [show (Int.ofNat a).tmod (Int.ofNat b) = ((a % b : Nat) : Int) from (Int.ofNat_tmod a b).symm]; rfl
 | shl =>
  have h' : cond (Nat.ble b (bitsN k)) (wrapN k (a <<< b)) none = some n := h
  cases e : Nat.ble b (bitsN k) with
  | false => rw [e] at h'; cases h'
  | true =>
   rw [e] at h'
   have h2 : wrapN k (a <<< b) = some n := h'
   have hb : b ≤ k.bits := by rw [← bits_eq h2]; exact Nat.le_of_ble_eq_true e
   have := wrapN_sound h2
   simp only [binOp, Op.shift]
   rw [if_neg (by simp), show (Int.ofNat b).toNat = b from rfl, Nat.min_eq_left hb]
   simp only [Sem.run_pure]
   rw [show (Int.ofNat a * 2 ^ b) = ((a <<< b : Nat) : Int) by simp [Nat.shiftLeft_eq], this]; rfl
 | shr =>
  have h' : cond (Nat.ble b (bitsN k)) (some (a >>> b)) none = some n := h
  cases e : Nat.ble b (bitsN k) with
  | false => rw [e] at h'; cases h'
  | true =>
   rw [e] at h'
   cases h'
   have hbn : bitsN k ≤ k.bits := by cases k <;> simp [bitsN, IntKind.bits]
   have hb : b ≤ k.bits := Nat.le_trans (Nat.le_of_ble_eq_true e) hbn
   simp only [binOp, Op.shift]
   rw [if_neg (by simp), show (Int.ofNat b).toNat = b from rfl, Nat.min_eq_left hb]
   simp only [Sem.run_pure]
   rw [show (Int.ofNat a).fdiv (2 ^ b) = ((a >>> b : Nat) : Int) by
    rw [Int.fdiv_eq_ediv_of_nonneg _ (by exact Int.pow_nonneg (by omega))]
    simp [Nat.shiftRight_eq_div_pow]]; rfl
 | andNot => cases h
 | eql => cases h
 | neq => cases h
 | lss => cases h
 | leq => cases h
 | gtr => cases h
 | geq => cases h
theorem cmN_sound {P : Program} {op : BinOp} {t : TypeId} {k k' : IntKind} {a b : Nat} {r : Bool} (hk : kinds op k k' = true) (h : cmN op a b = some r) (w : World) :
  (binOp op t (.int k (.ofNat a)) (.int k' (.ofNat b))).run P w = .ok (.bool r) w := by
 have blt : ∀ x y : Nat, Nat.blt x y = decide (x < y) := fun x y => by
  cases e : Nat.blt x y with
  | true => exact (decide_eq_true (Nat.le_of_ble_eq_true e)).symm
  | false => exact (decide_eq_false (fun hl => by have := Nat.ble_eq_true_of_le (show x + 1 ≤ y from hl); rw [show Nat.ble (x + 1) y = Nat.blt x y from rfl, e] at this; cases this)).symm
 have ble : ∀ x y : Nat, Nat.ble x y = decide (x ≤ y) := fun x y => by
  cases e : Nat.ble x y with
  | true => exact (decide_eq_true (Nat.le_of_ble_eq_true e)).symm
  | false => exact (decide_eq_false (fun hl => by have := Nat.ble_eq_true_of_le hl; rw [e] at this; cases this)).symm
 have beq : ∀ x y : Nat, Nat.beq x y = decide (x = y) := fun x y => by
  cases e : Nat.beq x y with
  | true => exact (decide_eq_true (Nat.eq_of_beq_eq_true e)).symm
  | false => exact (decide_eq_false (fun hl => by subst hl; rw [Nat.beq_refl] at e; cases e)).symm
 have ieq : (Int.ofNat a == Int.ofNat b) = decide (a = b) := by
  by_cases e : a = b
  ·subst e; simp
  ·rw [decide_eq_false e]
   exact beq_eq_false_iff_ne.2 (fun h => e (Int.ofNat.inj h))
 cases op <;> first | (cases h; done) | skip
 all_goals
  obtain rfl := kinds_eq hk (by decide) (by decide)
  cases h
  simp only [binOp, ne_eq, not_true_eq_false, if_false, Op.intCmp, Sem.run_pure, beq, blt, ble, bne, ieq]
  try simp only [Int.ofNat_eq_natCast, Int.ofNat_lt, Int.ofNat_le, gt_iff_lt, ge_iff_le]
theorem ints_sound (P : Program) (E : En) (op : BinOp) (t : TypeId) (k k' : IntKind) (a b : Int) : PuY P E (fun s => ints P op t k k' a b s) (binOp op t (.int k a) (.int k' b)) := by
 have main : ∀ a b : Nat, PuY P E (fun s => intsN P op t k k' a b s) (binOp op t (.int k (.ofNat a)) (.int k' (.ofNat b))) := by
  intro a b
  unfold intsN
  cases hk : kinds op k k' with
  | false => exact .no fun _ => rfl
  | true =>
   simp only [cond]
   cases e : arN op k a b with
   | some n => exact .yes (fun s => okN_eq k n s) (.int _ _) (arN_sound hk e)
   | none =>
    cases e2 : cmN op a b with
    | some r => exact .yes (fun s => okB_eq r s) (.bool r) (cmN_sound hk e2)
    | none => exact .self
 cases a with
 | ofNat a => cases b with
  | ofNat b => exact main a b
  | negSucc b => exact .self
 | negSucc a => exact .self
end Go.Ev
namespace Go.Proofs.YteldpcbhfbgomaaGreatDoor.Dg
open Go.RowKit
def arr8 (s : W8) : Array Value := #[.int .u32 s.a, .int .u32 s.b, .int .u32 s.c, .int .u32 s.d, .int .u32 s.e, .int .u32 s.f, .int .u32 s.g, .int .u32 s.h]
def w8 (s : W8) (i : Nat) : Nat := match i with | 0 => s.a | 1 => s.b | 2 => s.c | 3 => s.d | 4 => s.e | 5 => s.f | 6 => s.g | _ => s.h
def Roots (w : World) : Prop := ∀ i, i < 64 → w.cell? ⟨4, i, none⟩ = some (.int .u32 (K i))
theorem Roots.below {w w' : World} (h : Roots w) {B : Nat} (hb : Below B w w') (hB : 4 < B) : Roots w' := fun i hi => (hb.cell (p := ⟨4, i, none⟩) hB).trans (h i hi)
theorem arr8_cell (s : W8) : ∀ i, i < 8 → (arr8 s)[i]? = some (.int .u32 (w8 s i)) := by
 intro i hi
 match i, hi with
 | 0, _ => rfl
 | 1, _ => rfl
 | 2, _ => rfl
 | 3, _ => rfl
 | 4, _ => rfl
 | 5, _ => rfl
 | 6, _ => rfl
 | 7, _ => rfl
structure Fo (w wr : World) (s : W8) (g : Nat) (f : Nat → Nat) : Prop where
 below : Below w.heap.size w wr
 low : w.heap.size + 2 ≤ g
 in_ : wr.rowIs w.heap.size 145 8 (fun i => .int .u32 (w8 s i))
 out : ∃ f', wr.rowIs (w.heap.size + 1) 145 8 f'
 row : wr.rowIs g 157 64 (fun i => .int .u32 (f i))
 roots : Roots wr
theorem Fo.drewN {w wr : World} {s : W8} {g : Nat} {f : Nat → Nat} (h : Fo w wr s g f) (q : Nat) : Fo w (wr.drewN q) s g f :=
 ⟨below_drewN h.below q, h.low, h.in_.of_block rfl, let ⟨f', hf⟩ := h.out; ⟨f', hf.of_block rfl⟩, h.row.of_block rfl, h.roots⟩
theorem rowIs_setRow {w : World} {g t n : Nat} {old cs : Array Value} {f : Nat → Value} (hg : w.heap[g]? = some (.cells old t (0, 0))) (hn : cs.size = n) (hc : ∀ i, i < n → cs[i]? = some (f i)) : (w.setRow g cs).rowIs g t n f :=
 ⟨cs, setRow_heap w g old cs t (0, 0) hg, hn, hc⟩
theorem fo_start (w w2 : World) (s : W8) (cs : Array Value) (f : Nat → Nat) (hsz : cs.size = 64) (hcs : ∀ i, i < 64 → cs[i]? = some (.int .u32 (f i)))
  (hb : Below ((w.alloc (.cells (arr8 s) 145)).alloc (.cells #[.int .u32 0, .int .u32 0, .int .u32 0, .int .u32 0, .int .u32 0, .int .u32 0, .int .u32 0, .int .u32 0] 145)).heap.size ((w.alloc (.cells (arr8 s) 145)).alloc (.cells #[.int .u32 0, .int .u32 0, .int .u32 0, .int .u32 0, .int .u32 0, .int .u32 0, .int .u32 0, .int .u32 0] 145)) w2)
  (hK : Roots w) (hw : 4 < w.heap.size) : Fo w ((w2.alloc (.cells Z64 157)).setRow w2.heap.size cs) s w2.heap.size f := by
 have hs := hb.size
 simp only [World.size_alloc] at hs hb
 have b0 : Below w.heap.size w w2 := (((Below.refl _ _).alloc (Nat.le_refl _) _).alloc (by simp) _).trans (hb.mono (by omega))
 have b1 : Below w.heap.size w ((w2.alloc (.cells Z64 157)).setRow w2.heap.size cs) := below_setRow (b0.alloc (by omega) _) (by omega) _
 have oth : ∀ i, i < w2.heap.size → ((w2.alloc (.cells Z64 157)).setRow w2.heap.size cs).heap[i]? = w2.heap[i]? := fun i hi => by
  rw [setRow_other _ _ _ _ (by omega), heap_alloc_old _ _ hi]
 refine ⟨b1, by omega, ?_, ?_, rowIs_setRow (heap_alloc_new _ _) hsz hcs, hK.below b1 hw⟩
 ·have r := World.rowIs_alloc w (arr8 s) 145 (fun i => .int .u32 (w8 s i)) (fun i hi => arr8_cell s i hi)
  exact ((r.alloc (.cells #[.int .u32 0, .int .u32 0, .int .u32 0, .int .u32 0, .int .u32 0, .int .u32 0, .int .u32 0, .int .u32 0] 145)).of_block (hb.block _ (by omega))).of_block (oth _ (by omega))
 ·have r := zeros_row (w.alloc (.cells (arr8 s) 145)) (.int .u32 0) 8 145
  rw [World.size_alloc] at r
  exact ⟨_, (r.of_block (hb.block _ (by omega))).of_block (oth _ (by omega))⟩
theorem and_lt {x y : Nat} (h : x < 4294967296) : x &&& y < 4294967296 := Nat.lt_of_le_of_lt Nat.and_le_left h
theorem not_spelt {e : Nat} (h : e < 4294967296) : bits .xor .u32 (if IntKind.u32.signed = true then -1 else IntKind.u32.max) (e : Int) = ((4294967295 ^^^ e : Nat) : Int) := by
 have m : (if IntKind.u32.signed = true then -1 else IntKind.u32.max) = ((4294967295 : Nat) : Int) := by decide
 rw [m, u32_xor_nat _ _ (by decide) h]
theorem big1_spelt {e : Nat} (h : e < 4294967296) : bits .xor .u32 (bits .xor .u32 ((rot e 6 : Nat) : Int) ((rot e 11 : Nat) : Int)) ((rot e 25 : Nat) : Int) = ((big1 e : Nat) : Int) := by
 rw [u32_xor_nat _ _ (rot_lt 6 h) (rot_lt 11 h), u32_xor_nat _ _ (xor_lt (rot_lt 6 h) (rot_lt 11 h)) (rot_lt 25 h)]
 rfl
theorem big0_spelt {e : Nat} (h : e < 4294967296) : bits .xor .u32 (bits .xor .u32 ((rot e 2 : Nat) : Int) ((rot e 13 : Nat) : Int)) ((rot e 22 : Nat) : Int) = ((big0 e : Nat) : Int) := by
 rw [u32_xor_nat _ _ (rot_lt 2 h) (rot_lt 13 h), u32_xor_nat _ _ (xor_lt (rot_lt 2 h) (rot_lt 13 h)) (rot_lt 22 h)]
 rfl
theorem pick_spelt {e f g : Nat} (h : e < 4294967296) (hf : f < 4294967296) (hg : g < 4294967296) :
  bits .xor .u32 (bits .and .u32 (e : Int) (f : Int)) (bits .and .u32 (bits .xor .u32 (if IntKind.u32.signed = true then -1 else IntKind.u32.max) (e : Int)) (g : Int)) = ((pick e f g : Nat) : Int) := by
 have l : 4294967295 ^^^ e < 4294967296 := xor_lt (by decide) h
 rw [not_spelt h, u32_and_nat _ _ h hf, u32_and_nat _ _ l hg, u32_xor_nat _ _ (and_lt h) (and_lt l)]
 rfl
theorem most_spelt {a b c : Nat} (ha : a < 4294967296) (hb : b < 4294967296) (hc : c < 4294967296) :
  bits .xor .u32 (bits .xor .u32 (bits .and .u32 (a : Int) (b : Int)) (bits .and .u32 (a : Int) (c : Int))) (bits .and .u32 (b : Int) (c : Int)) = ((most a b c : Nat) : Int) := by
 rw [u32_and_nat _ _ ha hb, u32_and_nat _ _ ha hc, u32_and_nat _ _ hb hc, u32_xor_nat _ _ (and_lt ha) (and_lt ha), u32_xor_nat _ _ (xor_lt (and_lt ha) (and_lt ha)) (and_lt hb)]
 rfl
theorem info51 : (Tryz.prog.info? 145).map (·.size) = some 8 := by kernel_rfl
def sum8 (s t : W8) : Array Value := #[.int .u32 (((s.a : Int) + (t.a : Int)) % 4294967296), .int .u32 (((s.b : Int) + (t.b : Int)) % 4294967296), .int .u32 (((s.c : Int) + (t.c : Int)) % 4294967296), .int .u32 (((s.d : Int) + (t.d : Int)) % 4294967296), .int .u32 (((s.e : Int) + (t.e : Int)) % 4294967296), .int .u32 (((s.f : Int) + (t.f : Int)) % 4294967296), .int .u32 (((s.g : Int) + (t.g : Int)) % 4294967296), .int .u32 (((s.h : Int) + (t.h : Int)) % 4294967296)]
theorem sum8_eq (s t : W8) : sum8 s t = arr8 (plus s t) := by
 simp [sum8, arr8, plus, M]
theorem one8 (s t : W8) : (sum8 s t).all (·.oneCell') = true := by
 rw [sum8_eq]
 exact all_one (fun i hi => ⟨_, _, arr8_cell (plus s t) i hi⟩)
set_option maxRecDepth 100000 in
set_option maxHeartbeats 8000000 in
theorem folded_any (w : World) (s : W8) (hs : Ok8 s) (a : Option Addr) (b off c : Nat) (B : Nat → Nat) (h : View w a b off 64 (fun i => (B i : Int))) (hB : ∀ i, B i < 256) (hK : Roots w) (hw : 4 < w.heap.size) :
  Calls Tryz.prog 106 #[.agg (arr8 s), .slice a 64 c] w fun e w' => e = .returned (.agg (arr8 (fold1 s B))) ∧ Below w.heap.size w w' := by
 go_enter Tryz.func106, Tryz.ntmps106
 go_wp2_with fail
 refine (sched_any _ a b off c B (h.below (((Below.refl _ _).alloc (Nat.le_refl _) _).alloc (by simp) _)) hB).mono ?_
 rintro _ w2 ⟨⟨cs, rfl, hsz, hcs⟩, hb2⟩
 have hi : (Tryz.prog.info? 157).map (·.size) = some cs.size := by rw [hsz]; exact info62
 have h1 : cs.all (·.oneCell') = true := all_one (fun i hi => ⟨_, _, hcs i (by omega)⟩)
 go_wp2_with (refine wpList_store_row rfl 157 (.tmp 5) (.tmp 18) rfl w2.heap.size cs rfl rfl 157 Z64 (heap_alloc_new _ _) hi hsz.symm h1 ?_)
 have F := fo_start w w2 s cs (sched B) hsz hcs hb2 hK hw
 obtain ⟨wm, hwm⟩ : ∃ x, x = (w2.alloc (.cells Z64 157)).setRow w2.heap.size cs := ⟨_, rfl⟩
 rw [← hwm] at F
 delta Z64 at hwm
 rw [← hwm]
 obtain ⟨g5, hg5⟩ : ∃ x, x = w2.heap.size := ⟨_, rfl⟩
 rw [← hg5] at F ⊢
 clear hwm hg5 hb2 hcs h1 hi hsz
 have i0 := F.in_.cell (i := 0) (by omega)
 have i1 := F.in_.cell (i := 1) (by omega)
 have i2 := F.in_.cell (i := 2) (by omega)
 have i3 := F.in_.cell (i := 3) (by omega)
 have i4 := F.in_.cell (i := 4) (by omega)
 have i5 := F.in_.cell (i := 5) (by omega)
 have i6 := F.in_.cell (i := 6) (by omega)
 have i7 := F.in_.cell (i := 7) (by omega)
 simp only [w8] at i0 i1 i2 i3 i4 i5 i6 i7
 have HF : Hid (Fo w wm s g5 (sched B)) := F
 clear F
 go_quiet (fail)
 have HF2 : Hid (Fo w (wm.drewN nq) s g5 (sched B)) := HF.out.drewN nq
 clear HF i0 i1 i2 i3 i4 i5 i6 i7
 go_wp2
 go_loopg [35, 6, 7, 8, 9, 10, 11, 12, 13] 64 (fun g i va vb vc vd ve vf vg vh wr => ∃ k : Nat, k ≤ 64 ∧ g = 64 - k ∧ i = .int .i64 k ∧ va = .int .u32 (turns K (sched B) s k).a ∧ vb = .int .u32 (turns K (sched B) s k).b ∧ vc = .int .u32 (turns K (sched B) s k).c ∧ vd = .int .u32 (turns K (sched B) s k).d ∧ ve = .int .u32 (turns K (sched B) s k).e ∧ vf = .int .u32 (turns K (sched B) s k).f ∧ vg = .int .u32 (turns K (sched B) s k).g ∧ vh = .int .u32 (turns K (sched B) s k).h ∧ Fo w wr s g5 (sched B))
 case atStart => exact ⟨0, by omega, rfl, rfl, rfl, rfl, rfl, rfl, rfl, rfl, rfl, rfl, HF2.out⟩
 case round =>
  obtain ⟨k, hk, rfl, rfl, rfl, rfl, rfl, rfl, rfl, rfl, rfl, rfl, hR⟩ := hrel
  clear HF2
  by_cases hkn : k < 64
  ·have T := turns_ok hs K (sched B) k
   obtain ⟨t, ht⟩ : ∃ t, t = turns K (sched B) s k := ⟨_, rfl⟩
   have cK := hR.roots k hkn
   have cW := hR.row.cell hkn
   have lK := K_lt k hkn
   have lW := sched_lt hB k
   have Ht : Hid (turns K (sched B) s (k + 1) = turn1 t (K k) (sched B k)) := by rw [ht]; rfl
   rw [← ht] at T ⊢
   clear ht
   obtain ⟨x1, e1⟩ : ∃ x, x = K k := ⟨_, rfl⟩
   obtain ⟨x2, e2⟩ : ∃ x, x = sched B k := ⟨_, rfl⟩
   rw [← e1] at cK lK Ht
   rw [← e2] at cW lW Ht
   clear e1 e2
   obtain ⟨ta, tb, tc, td, te, tf, tg, th⟩ := t
   obtain ⟨la, lb, lc, ld, le, lf, lg, lh⟩ := T
   have HR : Hid (Fo w wr s g5 (sched B)) := hR
   clear hR
   simp only at la lb lc ld le lf lg lh ⊢
   go_wp2
   refine wp_region_quiet_lit (by kernel_rfl) (by kernel_rfl) ?_
   repeat (go_big_quiet_step (fail))
   go_big_quiet_step (first | (go_at_call 110; refine Calls.quiet_of_same (rotR_any _ te 6 le (by omega) (by omega))))
   repeat (go_big_quiet_step (fail))
   go_big_quiet_step (first | (go_at_call 110; refine Calls.quiet_of_same (rotR_any _ te 11 le (by omega) (by omega))))
   repeat (go_big_quiet_step (fail))
   go_big_quiet_step (first | (go_at_call 110; refine Calls.quiet_of_same (rotR_any _ te 25 le (by omega) (by omega))))
   repeat (go_big_quiet_step (fail))
   refine wpQuiet_nil ?_
   intro wz hwz
   obtain ⟨nq, rfl⟩ := hwz
   have HQ : Hid (Fo w (wr.drewN nq) s g5 (sched B)) := HR.out.drewN nq
   clear HR cK cW
   have V : ((((th : Int) + bits .xor .u32 (bits .xor .u32 ((rot te 6 : Nat) : Int) ((rot te 11 : Nat) : Int)) ((rot te 25 : Nat) : Int) + bits .xor .u32 (bits .and .u32 (te : Int) (tf : Int)) (bits .and .u32 (bits .xor .u32 (if IntKind.u32.signed = true then -1 else IntKind.u32.max) (te : Int)) (tg : Int)) + (x1 : Int)) % 4294967296 + (x2 : Int)) % 4294967296) = ((t1 ⟨ta, tb, tc, td, te, tf, tg, th⟩ x1 x2 : Nat) : Int) := by
    rw [big1_spelt le, pick_spelt le lf lg]
    simp only [t1, M]
    omega
   rw [V]
   have l1 : t1 ⟨ta, tb, tc, td, te, tf, tg, th⟩ x1 x2 < 4294967296 := Nat.mod_lt _ (by decide)
   obtain ⟨y1, hy1⟩ : ∃ y, y = t1 ⟨ta, tb, tc, td, te, tf, tg, th⟩ x1 x2 := ⟨_, rfl⟩
   have Hy : Hid (t1 ⟨ta, tb, tc, td, te, tf, tg, th⟩ x1 x2 = y1) := hy1.symm
   rw [← hy1] at l1 ⊢
   clear hy1 V
   obtain ⟨wq, hwq⟩ : ∃ x, x = wr.drewN nq := ⟨_, rfl⟩
   rw [← hwq] at HQ ⊢
   clear hwq
   go_wp2_with fail
   refine (rotR_any _ ta 2 la (by omega) (by omega)).mono ?_
   rintro _ _ ⟨rfl, rfl⟩
   go_wp2_with fail
   refine (rotR_any _ ta 13 la (by omega) (by omega)).mono ?_
   rintro _ _ ⟨rfl, rfl⟩
   go_wp2_with fail
   refine (rotR_any _ ta 22 la (by omega) (by omega)).mono ?_
   rintro _ _ ⟨rfl, rfl⟩
   go_wp2_with fail
   go_roundg (64 - (k + 1))
   case measure => omega
   case rel =>
    refine ⟨k + 1, by omega, rfl, by go_num, ?_, ?_, ?_, ?_, ?_, ?_, ?_, ?_, HQ.out⟩
    all_goals rw [Ht.out]
    all_goals simp only [turn1]
    ·congr 1
     rw [big0_spelt la, most_spelt la lb lc, Hy.out]
     simp only [t2, M]
     omega
    ·congr 1
     rw [Hy.out]
     simp only [M]
     omega
  ·have : k = 64 := by omega
   subst this
   have i0 := hR.in_.cell (i := 0) (by omega)
   have i1 := hR.in_.cell (i := 1) (by omega)
   have i2 := hR.in_.cell (i := 2) (by omega)
   have i3 := hR.in_.cell (i := 3) (by omega)
   have i4 := hR.in_.cell (i := 4) (by omega)
   have i5 := hR.in_.cell (i := 5) (by omega)
   have i6 := hR.in_.cell (i := 6) (by omega)
   have i7 := hR.in_.cell (i := 7) (by omega)
   simp only [w8] at i0 i1 i2 i3 i4 i5 i6 i7
   obtain ⟨f', hf'⟩ := hR.out
   obtain ⟨os, og, osz, _⟩ := hf'
   have T := turns_ok hs K (sched B) 64
   obtain ⟨t, ht⟩ : ∃ t, t = turns K (sched B) s 64 := ⟨_, rfl⟩
   have Hf : Hid (fold1 s B = plus s t) := by rw [ht]; rfl
   rw [← ht] at T ⊢
   clear ht
   have HR : Hid (Fo w wr s g5 (sched B)) := hR
   clear hR
   go_wp2_with (refine wpList_store_row rfl 145 (.tmp 4) (.tmp 130) rfl (w.heap.size + 1) (sum8 s t) rfl rfl 145 os og info51 osz (one8 s t) ?_)
   refine bodyPost_ret (v := .agg (sum8 s t)) ?_ rfl ?_
   ·exact results_cell_row rfl _ _ (w.heap.size + 1) 145 (sum8 s t) (0, 0) _ rfl (setRow_heap _ _ _ _ _ _ og) Tryz.underlying145 rfl info51
   exact ⟨by rw [sum8_eq, Hf.out], below_setRow HR.out.below (by omega) _⟩
theorem w8_lt {s : W8} (h : Ok8 s) (i : Nat) : w8 s i < 4294967296 := by
 unfold w8
 split
 ·exact h.a
 ·exact h.b
 ·exact h.c
 ·exact h.d
 ·exact h.e
 ·exact h.f
 ·exact h.g
 ·exact h.h
end Go.Proofs.YteldpcbhfbgomaaGreatDoor.Dg
