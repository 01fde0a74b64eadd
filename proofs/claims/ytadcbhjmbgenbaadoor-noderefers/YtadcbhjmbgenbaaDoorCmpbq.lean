import Derived.Test.YtadcbhjmbgenbaaDoorMemq
import Derived.Laws.Externs
/-
  bytes.Compare: what the model's own entry answers.
-/
namespace Go.Proofs.YtadcbhjmbgenbaaDoor
open Go.RowKit

def u8 (x : Nat) : UInt8 := ((x : Int).toNat).toUInt8
def pushAll (acc : ByteArray) (s : List Nat) : ByteArray := s.foldl (fun a x => a.push (u8 x)) acc
theorem run_loadBytes (P : Program) (w : World) (b : Nat) : ∀ (s : List Nat) (off : Nat) (acc : ByteArray), (∀ i, i < s.length → w.cell? ⟨b, off + i, none⟩ = some (.int .u8 (gd s i : Nat))) →
    (Extern.Bytes.loadBytes ⟨b, off, none⟩ s.length acc).run P w = .ok (pushAll acc s) w
  | [], _, _, _ => rfl
  | x :: s, off, acc, h => by
    have h0 := h 0 (by simp)
    have ih := run_loadBytes P w b s (off + 1) (acc.push (u8 x)) (fun i hi => by
      have := h (i + 1) (by simp; omega)
      rw [show off + 1 + i = off + (i + 1) by omega]
      exact this)
    have ha : (⟨b, off, none⟩ : Addr).add 1 = ⟨b, off + 1, none⟩ := rfl
    have hl : (load ⟨b, off, none⟩).run P w = .ok (.int .u8 ((gd (x :: s) 0 : Nat) : Int)) w := by
      simp only [Nat.add_zero] at h0
      rw [run_load, h0]
    simp only [List.length_cons, Extern.Bytes.loadBytes, Sem.run_bind, hl, Result.andThen_ok, ha]
    exact ih
theorem pushAll_data : ∀ (s : List Nat) (acc : ByteArray), (pushAll acc s).data = acc.data ++ (s.map u8).toArray
  | [], acc => by simp [pushAll]
  | x :: s, acc => by
    have := pushAll_data s (acc.push (u8 x))
    unfold pushAll at this ⊢
    rw [List.foldl_cons, this]
    simp [ByteArray.push, List.map_cons]
def ba (s : List Nat) : ByteArray := pushAll .empty s
theorem ba_data (s : List Nat) : (ba s).data = (s.map u8).toArray := by
  unfold ba
  rw [pushAll_data]
  show (#[] : Array UInt8) ++ _ = _
  rw [Array.empty_append]
theorem ba_size (s : List Nat) : (ba s).size = s.length := by
  show (ba s).data.size = _
  rw [ba_data]
  simp
theorem ba_get (s : List Nat) (i : Nat) (h : i < s.length) : (ba s)[i]! = u8 (gd s i) := by
  have h1 : i < (ba s).size := by rw [ba_size]; exact h
  rw [getElem!_pos (ba s) i h1]
  show (ba s).data[i] = _
  have : (ba s).data[i]? = some (u8 (gd s i)) := by
    rw [ba_data]
    simp [List.getElem?_eq_getElem h, gd_get h]
  have h2 : i < (ba s).data.size := h1
  rw [Array.getElem?_eq_getElem h2] at this
  exact Option.some.inj this
theorem u8_nat {x : Nat} (h : x < 256) : (u8 x).toNat = x := by
  unfold u8
  rw [Int.toNat_natCast]
  exact UInt8.toNat_ofNat_of_lt h
theorem u8_lt {x y : Nat} (hx : x < 256) (hy : y < 256) : u8 x < u8 y ↔ x < y := by
  rw [UInt8.lt_iff_toNat_lt, u8_nat hx, u8_nat hy]
theorem u8_ne {x y : Nat} (hx : x < 256) (hy : y < 256) : (u8 x != u8 y) = (x != y) := by
  by_cases e : x = y
  · subst e
    rw [bne_self_eq_false, bne_self_eq_false]
  · have : u8 x ≠ u8 y := fun q => e (by rw [← u8_nat hx, ← u8_nat hy, q])
    rw [bne_iff_ne.2 this, bne_iff_ne.2 e]

def cmpA (s t : List Nat) : Int :=
  match (List.range (min s.length t.length)).find? fun i => gd s i != gd t i with
  | some i => if gd s i < gd t i then -1 else 1
  | none => if s.length < t.length then -1 else if s.length > t.length then 1 else 0
theorem cmpA_eq : ∀ s t : List Nat, cmpA s t = cmpL s t
  | [], [] => rfl
  | [], b :: t => by simp [cmpA, cmpL]
  | a :: s, [] => by simp [cmpA, cmpL]
  | a :: s, b :: t => by
    have ih := cmpA_eq s t
    unfold cmpA at ih ⊢
    have em : min (a :: s).length (b :: t).length = min s.length t.length + 1 := by simp only [List.length_cons]; omega
    rw [em, List.range_succ_eq_map, List.find?_cons]
    have e0 : (gd (a :: s) 0 != gd (b :: t) 0) = (a != b) := rfl
    rw [e0]
    by_cases e : a = b
    · have e1 : (a != b) = false := by simp [e]
      rw [e1]
      simp only [List.find?_map]
      have e2 : ((fun i => gd (a :: s) i != gd (b :: t) i) ∘ Nat.succ) = fun i => gd s i != gd t i := rfl
      rw [e2]
      simp only [cmpL, e, Nat.lt_irrefl, if_false]
      rw [← ih]
      cases (List.range (min s.length t.length)).find? fun i => gd s i != gd t i with
      | none => simp
      | some i => rfl
    · have e1 : (a != b) = true := by simp [e]
      rw [e1]
      show (if a < b then (-1 : Int) else 1) = cmpL (a :: s) (b :: t)
      simp only [cmpL]
      by_cases h : a < b
      · rw [if_pos h, if_pos h]
      · rw [if_neg h, if_neg h, if_pos (by omega)]
theorem find_congr {α : Type} {p q : α → Bool} : ∀ {l : List α}, (∀ x ∈ l, p x = q x) → l.find? p = l.find? q
  | [], _ => rfl
  | a :: l, h => by
    rw [List.find?_cons, List.find?_cons, h a (by simp), find_congr (fun x hx => h x (by simp [hx]))]
theorem cmp_ba {s t : List Nat} (hs : ∀ x ∈ s, x < 256) (ht : ∀ x ∈ t, x < 256) : Extern.BytealgCompare.cmp (ba s) (ba t) = cmpL s t := by
  rw [← cmpA_eq]
  unfold Extern.BytealgCompare.cmp cmpA
  rw [ba_size, ba_size]
  have e : ((List.range (min s.length t.length)).find? fun i => (ba s)[i]! != (ba t)[i]!) = (List.range (min s.length t.length)).find? fun i => gd s i != gd t i :=
    find_congr (fun i hi => by
      have hi := List.mem_range.1 hi
      rw [ba_get s i (by omega), ba_get t i (by omega), u8_ne (gd_lt hs i) (gd_lt ht i)])
  rw [e]
  cases hf : (List.range (min s.length t.length)).find? fun i => gd s i != gd t i with
  | none => rfl
  | some i =>
    have hi := List.mem_range.1 (List.mem_of_find?_eq_some hf)
    simp only []
    rw [ba_get s i (by omega), ba_get t i (by omega)]
    by_cases h : gd s i < gd t i
    · rw [if_pos h, if_pos ((u8_lt (gd_lt hs i) (gd_lt ht i)).2 h)]
    · rw [if_neg h, if_neg (fun q => h ((u8_lt (gd_lt hs i) (gd_lt ht i)).1 q))]
theorem run_bytesOf {P : Program} {w : World} {a : Option Addr} {b off : Nat} {s : List Nat} (h : Vw w a b off s) (c : Nat) : (Extern.Bytes.bytesOf (.slice a s.length c)).run P w = .ok (ba s) w := by
  cases s with
  | nil => cases a <;> rfl
  | cons x s =>
    rw [h.at_ (by simp)]
    exact run_loadBytes P w b (x :: s) off .empty h.cell
theorem run_compare {P : Program} {w : World} {a a' : Option Addr} {b off b' off' : Nat} {s t : List Nat} (h : Vw w a b off s) (h' : Vw w a' b' off' t) (c c' : Nat) :
    (Extern.BytealgCompare.compare #[.slice a s.length c, .slice a' t.length c']).run P w = .ok (.int .i64 (cmpL s t)) w := by
  show ((Extern.Bytes.bytesOf (.slice a s.length c)) >>= fun x => (Extern.Bytes.bytesOf (.slice a' t.length c')) >>= fun y => pure (goInt (Extern.BytealgCompare.cmp x y))).run P w = _
  simp only [Sem.run_bind, run_bytesOf h c, run_bytesOf h' c', Result.andThen_ok, Sem.run_pure, cmp_ba (vw_ok h).2 (vw_ok h').2]
  rfl
end Go.Proofs.YtadcbhjmbgenbaaDoor
