import Derived.Test.YtgglbjnfbfpiiaaGreatDoorE6zz
import Derived.Laws.BitsLemmas
import Derived.Laws.Bits64
/-
  The evaluator: what needs no memory.
-/
namespace Go.Ev
open Go
theorem pureRun_run {α : Type} {P : Program} : ∀ {m : Sem α} {a : α}, pureRun P m = some a → ∀ w, m.run P w = .ok a w := by
  intro m
  induction m with
  | pure b => intro a h w; cases h; rfl
  | program k ih => intro a h w; exact ih P (show pureRun P (k P) = some a from h) w
  | load => intro a h; cases h
  | store => intro a h; cases h
  | new => intro a h; cases h
  | shape => intro a h; cases h
  | freeze => intro a h; cases h
  | frozen => intro a h; cases h
  | getObj => intro a h; cases h
  | setObj => intro a h; cases h
  | choose => intro a h; cases h
  | sys => intro a h; cases h
  | mark => intro a h; cases h
  | halt => intro a h; cases h
section
variable {P : Program} {t : TypeId} (w : World)
theorem run_sizeOf {n : Nat} (h : sizeOfT P t = some n) : (sizeOf t).run P w = .ok n w := by
  unfold sizeOfT at h
  split at h
  · rename_i i hi; cases h; simp [sizeOf, typeInfo, hi]
  · cases h
theorem run_zeroValue {v : Value} (h : zeroOf P t = some v) : (zeroValue t).run P w = .ok v w := by
  unfold zeroOf at h
  split at h
  · rename_i i hi; simp [zeroValue, typeInfo, hi, h]
  · cases h
theorem run_isAgg {b : Bool} (h : isAggT P t = some b) : (isAgg t).run P w = .ok b w := by
  unfold isAggT at h
  cases hd : P.underlying t with
  | none => rw [hd] at h; cases h
  | some d =>
    rw [hd] at h
    cases d <;> cases h <;> simp [isAgg, underlying, hd]
end
/-- A reading of no memory: nothing comes of it, or one value, in whatever world. -/
def PuY (P : Program) (E : En) (f : St → Re) (m : Sem Value) : Prop :=
  (∀ s, f s = .no) ∨ ∃ v v', (∀ s, f s = .ok (.val v) s) ∧ VR E v v' ∧ ∀ w, m.run P w = .ok v' w
theorem PuY.no {P : Program} {E : En} {f : St → Re} {m : Sem Value} (h : ∀ s, f s = .no) : PuY P E f m := .inl h
theorem PuY.yes {P : Program} {E : En} {f : St → Re} {m : Sem Value} {v v' : Value} (h : ∀ s, f s = .ok (.val v) s) (hv : VR E v v') (hm : ∀ w, m.run P w = .ok v' w) : PuY P E f m := .inr ⟨v, v', h, hv, hm⟩
theorem ofO_some {v : Value} (s : St) : ofO (some v) s = .ok (.val v) s := rfl
theorem ofO_none (s : St) : ofO none s = .no := rfl
theorem PuY.ofO {P : Program} {E : En} {o : Option Value} {m : Sem Value} (h : ∀ v, o = some v → ∃ v', VR E v v' ∧ ∀ w, m.run P w = .ok v' w) : PuY P E (fun s => Ev.ofO o s) m := by
  cases o with
  | none => exact .no fun _ => rfl
  | some v => obtain ⟨v', h1, h2⟩ := h v rfl; exact .yes (fun _ => rfl) h1 h2
theorem okB_eq (b : Bool) (s : St) : okB b s = .ok (.val (.bool b)) s := by cases b <;> rfl
theorem okN_eq (k : IntKind) (n : Nat) (s : St) : okN k n s = .ok (.val (.int k (.ofNat n))) s := fN_eq n _
theorem ofI_eq (k : IntKind) (n : Int) (s : St) : ofI k n s = .ok (.val (.int k n)) s := fI_eq n _
theorem PuY.ofV {P : Program} {E : En} (v : Value) {m : Sem Value} (h : ∀ w, m.run P w = .ok v w) : PuY P E (fun s => Ev.ofV v s) m := by
  cases v with
  | int k n => exact .yes (v := .int k n) (fun s => ofI_eq k n s) (.int k n) h
  | bool b => exact .yes (v := .bool b) (fun s => okB_eq b s) (.bool b) h
  | string t => exact .yes (v := .string t) (fun s => rfl) (.str t) h
  | slice a l c => cases a with
    | none => exact .yes (v := .slice none l c) (fun s => rfl) (.snil l c) h
    | some a => exact .no fun _ => rfl
  | float => exact .no fun _ => rfl
  | complex => exact .no fun _ => rfl
  | pointer => exact .no fun _ => rfl
  | map => exact .no fun _ => rfl
  | chan => exact .no fun _ => rfl
  | func => exact .no fun _ => rfl
  | nilFunc => exact .no fun _ => rfl
  | iface => exact .no fun _ => rfl
  | nilIface => exact .no fun _ => rfl
  | agg => exact .no fun _ => rfl
  | tuple => exact .no fun _ => rfl
theorem PuY.ofPure {P : Program} {E : En} {m m' : Sem Value} (h : ∀ v, pureRun P m = some v → ∀ w, m'.run P w = .ok v w) : PuY P E (fun s => Ev.ofPure P m s) m' := by
  unfold Ev.ofPure
  cases e : pureRun P m with
  | none => exact .no fun _ => rfl
  | some v => exact PuY.ofV v (h v e)
theorem PuY.self {P : Program} {E : En} {m : Sem Value} : PuY P E (fun s => Ev.ofPure P m s) m := PuY.ofPure fun _ h => pureRun_run h
/-! ### Numbers -/
theorem wrapN_sound {k : IntKind} {n m : Nat} (h : wrapN k n = some m) : k.wrap (n : Int) = (m : Int) := by
  cases k <;> simp only [wrapN] at h
  case u8 => cases h; rw [IntKind.wrap_u8]; show (n : Int) % 256 = ((n % 256 : Nat) : Int); omega
  case u16 => cases h; simp only [IntKind.wrap, IntKind.bits, IntKind.signed]; show (if (false && _) = true then _ else (n : Int) % 65536) = ((n % 65536 : Nat) : Int); simp
  case u32 => cases h; rw [IntKind.wrap_u32]; show (n : Int) % 4294967296 = ((n % 4294967296 : Nat) : Int); omega
  case u64 => cases h; rw [IntKind.wrap_u64]; show (n : Int) % 18446744073709551616 = ((n % 18446744073709551616 : Nat) : Int); omega
  case i64 =>
    cases e : Nat.blt n 9223372036854775808 with
    | false => rw [e] at h; cases h
    | true =>
      rw [e] at h; cases h
      have : n < 9223372036854775808 := Nat.le_of_ble_eq_true e
      rw [IntKind.wrap_i64]; omega
  case i32 =>
    cases e : Nat.blt n 2147483648 with
    | false => rw [e] at h; cases h
    | true =>
      rw [e] at h; cases h
      have : n < 2147483648 := Nat.le_of_ble_eq_true e
      rw [IntKind.wrap_i32]; omega
  all_goals cases h
theorem modulus_bits {k : IntKind} (h : Nat.beq (modulus k) 0 = false) : k.signed = false ∧ modulus k = 2 ^ k.bits := by
  cases k <;> simp [modulus, IntKind.signed, IntKind.bits] at *
theorem wrap_add_mod {k : IntKind} (hs : k.signed = false) (x : Int) : k.wrap (x + 2 ^ k.bits) = k.wrap x := by
  simp [IntKind.wrap, hs]
theorem bits_eq {k : IntKind} {n m : Nat} (h : wrapN k n = some m) : bitsN k = k.bits := by
  cases k <;> first | rfl | (simp [wrapN] at h)
theorem kinds_eq {op : BinOp} {k k' : IntKind} (h : kinds op k k' = true) (h1 : op ≠ .shl) (h2 : op ≠ .shr) : k = k' := by
  have : Nat.beq (kNum k) (kNum k') = true := by
    cases op <;> first | exact h | exact absurd rfl h1 | exact absurd rfl h2
  have := Nat.eq_of_beq_eq_true this
  revert this
  cases k <;> cases k' <;> simp [kNum]
theorem ofInt_nat (w n : Nat) : BitVec.ofInt w (n : Int) = BitVec.ofNat w n := by simp
theorem arN_sound {P : Program} {op : BinOp} {t : TypeId} {k k' : IntKind} {a b n : Nat} (hk : kinds op k k' = true) (h : arN op k a b = some n) (w : World) :
    (binOp op t (.int k (.ofNat a)) (.int k' (.ofNat b))).run P w = .ok (.int k (.ofNat n)) w := by
  have hM : ∀ (x y : Nat), (BitVec.ofInt k.bits (Int.ofNat x)).toNat = x % 2 ^ k.bits := fun x _ => by
    show (BitVec.ofInt k.bits (x : Int)).toNat = _
    rw [ofInt_nat]; simp
  have bitop : ∀ (f : Nat → Nat → Nat) (x y : Nat), (∀ m, f (x % 2 ^ m) (y % 2 ^ m) = f x y % 2 ^ m) → wrapN k (f x y) = some n → k.wrap ((f (x % 2 ^ k.bits) (y % 2 ^ k.bits) : Nat) : Int) = (n : Int) := by
    intro f x y hf hw
    rw [hf]
    have h1 := wrapN_sound hw
    rw [← h1]
    have e : (((f x y % 2 ^ k.bits : Nat)) : Int) = (f x y : Int) % (2 ^ k.bits : Int) := by simp
    rw [e]
    simp [IntKind.wrap]
  cases op with
  | add =>
    obtain rfl := kinds_eq hk (by decide) (by decide)
    simp only [binOp, ne_eq, not_true_eq_false, if_false, Op.intArith, Sem.run_pure]
    have := wrapN_sound (show wrapN k (a + b) = some n from h)
    rw [show (Int.ofNat a + Int.ofNat b) = ((a + b : Nat) : Int) by simp, this]; rfl
  | mul =>
    obtain rfl := kinds_eq hk (by decide) (by decide)
    simp only [binOp, ne_eq, not_true_eq_false, if_false, Op.intArith, Sem.run_pure]
    have := wrapN_sound (show wrapN k (a * b) = some n from h)
    rw [show (Int.ofNat a * Int.ofNat b) = ((a * b : Nat) : Int) by simp, this]; rfl
  | sub =>
    obtain rfl := kinds_eq hk (by decide) (by decide)
    simp only [binOp, ne_eq, not_true_eq_false, if_false, Op.intArith, Sem.run_pure]
    have h' : subN k a b = some n := h
    unfold subN at h'
    cases e : Nat.ble b a with
    | true =>
      rw [e] at h'
      have hle := Nat.le_of_ble_eq_true e
      have := wrapN_sound (show wrapN k (a - b) = some n from h')
      rw [show (Int.ofNat a - Int.ofNat b) = ((a - b : Nat) : Int) by simp only [Int.ofNat_eq_natCast]; omega, this]; rfl
    | false =>
      rw [e] at h'
      cases e1 : Nat.beq (modulus k) 0 with
      | true => rw [e1] at h'; cases h'
      | false =>
        rw [e1] at h'
        cases e2 : Nat.ble b (Nat.add a (modulus k)) with
        | false => rw [e2] at h'; cases h'
        | true =>
          rw [e2] at h'
          have hle : b ≤ a + modulus k := Nat.le_of_ble_eq_true e2
          obtain ⟨hs, hm⟩ := modulus_bits e1
          have := wrapN_sound (show wrapN k (a + modulus k - b) = some n from h')
          rw [← wrap_add_mod hs]
          rw [show (Int.ofNat a - Int.ofNat b + 2 ^ k.bits) = ((a + modulus k - b : Nat) : Int) by
            have e3 : ((2 ^ k.bits : Nat) : Int) = (2 : Int) ^ k.bits := by simp
            rw [← e3, ← hm]; simp only [Int.ofNat_eq_natCast]; omega, this]; rfl
  | and =>
    obtain rfl := kinds_eq hk (by decide) (by decide)
    simp only [binOp, ne_eq, not_true_eq_false, if_false, Op.intBits, Sem.run_pure, BitVec.toNat_and, hM _ 0]
    rw [bitop (fun x y => x &&& y) a b (fun m => (Nat.and_mod_two_pow).symm) h]; rfl
  | or =>
    obtain rfl := kinds_eq hk (by decide) (by decide)
    simp only [binOp, ne_eq, not_true_eq_false, if_false, Op.intBits, Sem.run_pure, BitVec.toNat_or, hM _ 0]
    rw [bitop (fun x y => x ||| y) a b (fun m => (Nat.or_mod_two_pow).symm) h]; rfl
  | xor =>
    obtain rfl := kinds_eq hk (by decide) (by decide)
    simp only [binOp, ne_eq, not_true_eq_false, if_false, Op.intBits, Sem.run_pure, BitVec.toNat_xor, hM _ 0]
    rw [bitop (fun x y => x ^^^ y) a b (fun m => (Nat.xor_mod_two_pow).symm) h]; rfl
  | quo =>
    obtain rfl := kinds_eq hk (by decide) (by decide)
    have h' : cond (Nat.beq b 0) none (wrapN k (a / b)) = some n := h
    cases e : Nat.beq b 0 with
    | true => rw [e] at h'; cases h'
    | false =>
      rw [e] at h'
      have hb : b ≠ 0 := fun e2 => by subst e2; cases e
      have := wrapN_sound (show wrapN k (a / b) = some n from h')
      have hb' : (Int.ofNat b) ≠ 0 := by simp only [Int.ofNat_eq_natCast]; omega
      simp only [binOp, ne_eq, not_true_eq_false, if_false, Op.intDiv, hb', Sem.run_pure]
      rw [show (Int.ofNat a).tdiv (Int.ofNat b) = ((a / b : Nat) : Int) by simp, this]; rfl
  | rem =>
    obtain rfl := kinds_eq hk (by decide) (by decide)
    have h' : cond (Nat.beq b 0) none (some (a % b)) = some n := h
    cases e : Nat.beq b 0 with
    | true => rw [e] at h'; cases h'
    | false =>
      rw [e] at h'
      cases h'
      have hb : b ≠ 0 := fun e2 => by subst e2; cases e
      have hb' : (Int.ofNat b) ≠ 0 := by simp only [Int.ofNat_eq_natCast]; omega
      simp only [binOp, ne_eq, not_true_eq_false, if_false, Op.intDiv, hb', Sem.run_pure]
      rw [show (Int.ofNat a).tmod (Int.ofNat b) = ((a % b : Nat) : Int) from (Int.ofNat_tmod a b).symm]; rfl
  | shl =>
    have h' : cond (Nat.ble b (bitsN k)) (wrapN k (a <<< b)) none = some n := h
    cases e : Nat.ble b (bitsN k) with
    | false => rw [e] at h'; cases h'
    | true =>
      rw [e] at h'
      have h2 : wrapN k (a <<< b) = some n := h'
      have hb : b ≤ k.bits := by rw [← bits_eq h2]; exact Nat.le_of_ble_eq_true e
      have := wrapN_sound h2
      simp only [binOp, Op.shift]
      rw [if_neg (by simp), show (Int.ofNat b).toNat = b from rfl, Nat.min_eq_left hb]
      simp only [Sem.run_pure]
      rw [show (Int.ofNat a * 2 ^ b) = ((a <<< b : Nat) : Int) by simp [Nat.shiftLeft_eq], this]; rfl
  | shr =>
    have h' : cond (Nat.ble b (bitsN k)) (some (a >>> b)) none = some n := h
    cases e : Nat.ble b (bitsN k) with
    | false => rw [e] at h'; cases h'
    | true =>
      rw [e] at h'
      cases h'
      have hbn : bitsN k ≤ k.bits := by cases k <;> simp [bitsN, IntKind.bits]
      have hb : b ≤ k.bits := Nat.le_trans (Nat.le_of_ble_eq_true e) hbn
      simp only [binOp, Op.shift]
      rw [if_neg (by simp), show (Int.ofNat b).toNat = b from rfl, Nat.min_eq_left hb]
      simp only [Sem.run_pure]
      rw [show (Int.ofNat a).fdiv (2 ^ b) = ((a >>> b : Nat) : Int) by
        rw [Int.fdiv_eq_ediv_of_nonneg _ (by exact Int.pow_nonneg (by omega))]
        simp [Nat.shiftRight_eq_div_pow]]; rfl
  | andNot => cases h
  | eql => cases h
  | neq => cases h
  | lss => cases h
  | leq => cases h
  | gtr => cases h
  | geq => cases h
theorem cmN_sound {P : Program} {op : BinOp} {t : TypeId} {k k' : IntKind} {a b : Nat} {r : Bool} (hk : kinds op k k' = true) (h : cmN op a b = some r) (w : World) :
    (binOp op t (.int k (.ofNat a)) (.int k' (.ofNat b))).run P w = .ok (.bool r) w := by
  have blt : ∀ x y : Nat, Nat.blt x y = decide (x < y) := fun x y => by
    cases e : Nat.blt x y with
    | true => exact (decide_eq_true (Nat.le_of_ble_eq_true e)).symm
    | false => exact (decide_eq_false (fun hl => by have := Nat.ble_eq_true_of_le (show x + 1 ≤ y from hl); rw [show Nat.ble (x + 1) y = Nat.blt x y from rfl, e] at this; cases this)).symm
  have ble : ∀ x y : Nat, Nat.ble x y = decide (x ≤ y) := fun x y => by
    cases e : Nat.ble x y with
    | true => exact (decide_eq_true (Nat.le_of_ble_eq_true e)).symm
    | false => exact (decide_eq_false (fun hl => by have := Nat.ble_eq_true_of_le hl; rw [e] at this; cases this)).symm
  have beq : ∀ x y : Nat, Nat.beq x y = decide (x = y) := fun x y => by
    cases e : Nat.beq x y with
    | true => exact (decide_eq_true (Nat.eq_of_beq_eq_true e)).symm
    | false => exact (decide_eq_false (fun hl => by subst hl; rw [Nat.beq_refl] at e; cases e)).symm
  have ieq : (Int.ofNat a == Int.ofNat b) = decide (a = b) := by
    by_cases e : a = b
    · subst e; simp
    · rw [decide_eq_false e]
      exact beq_eq_false_iff_ne.2 (fun h => e (Int.ofNat.inj h))
  cases op <;> first | (cases h; done) | skip
  all_goals
    obtain rfl := kinds_eq hk (by decide) (by decide)
    cases h
    simp only [binOp, ne_eq, not_true_eq_false, if_false, Op.intCmp, Sem.run_pure, beq, blt, ble, bne, ieq]
    try simp only [Int.ofNat_eq_natCast, Int.ofNat_lt, Int.ofNat_le, gt_iff_lt, ge_iff_le]
theorem ints_sound (P : Program) (E : En) (op : BinOp) (t : TypeId) (k k' : IntKind) (a b : Int) : PuY P E (fun s => ints P op t k k' a b s) (binOp op t (.int k a) (.int k' b)) := by
  have main : ∀ a b : Nat, PuY P E (fun s => intsN P op t k k' a b s) (binOp op t (.int k (.ofNat a)) (.int k' (.ofNat b))) := by
    intro a b
    unfold intsN
    cases hk : kinds op k k' with
    | false => exact .no fun _ => rfl
    | true =>
      simp only [cond]
      cases e : arN op k a b with
      | some n => exact .yes (fun s => okN_eq k n s) (.int _ _) (arN_sound hk e)
      | none =>
        cases e2 : cmN op a b with
        | some r => exact .yes (fun s => okB_eq r s) (.bool r) (cmN_sound hk e2)
        | none => exact .self
  cases a with
  | ofNat a => cases b with
    | ofNat b => exact main a b
    | negSucc b => exact .self
  | negSucc a => exact .self
end Go.Ev
