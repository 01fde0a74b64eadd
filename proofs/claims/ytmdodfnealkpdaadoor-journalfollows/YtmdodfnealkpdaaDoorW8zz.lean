import Derived.Test.YtmdodfnealkpdaaDoorW7zz
/-
  The evaluator over any input: bytes.
-/
namespace Go.Sy
open Go Go.Ev
variable {s : St} {q r : Option Addr} {c d : Nat} {M N : List Nat}
theorem one_nB {A : List Nat} : ∀ v ∈ A.map nB, one v = true := fun v hv => by
  obtain ⟨a, _, rfl⟩ := List.mem_map.1 hv; rfl
theorem mkRow_kn {s : St} {cs : List Value} : Kn s (mkRow s cs) := newRow_kn
theorem mkRow_wf {s : St} {cs : List Value} (w : Wf s) : Wf (mkRow s cs) := newRow_kn.wf w
theorem mkRow_rw {s : St} {cs : List Value} : Rw (mkRow s cs) s.nx cs s.nx := .new
theorem mkRow_sl {s : St} {cs : List Value} : Sl (mkRow s cs) (some ⟨s.nx, 0, none⟩) cs s.nx := by
  have := (mkRow_rw (s := s) (cs := cs)).sl (o := 0) (n := cs.length) (by omega)
  rwa [List.drop_zero, List.take_length] at this
theorem Gw.mk0 {s : St} {cs : List Value} {n size : Nat} (h : cs.length = n * size) : Gw (mkRow s cs) (some ⟨s.nx, 0, none⟩) n (sure n) size cs s.nx := ⟨h, .inr ⟨s.nx, 0, rfl, newRow_get, rfl, .inr rfl⟩⟩
theorem Bs.cells {A : List Nat} (h : Bs s q A) : cellsFrom s 1 A.length (.slice q A.length c) = some (A.map nB) := cells_at h (by simp) (by decide)
theorem Bs.nil_of (h : Bs s none M) : M = [] := by
  rcases h with ⟨h, _⟩ | ⟨b, o, h, _⟩
  · simpa using h
  · cases h
theorem Bs.kn {s' : St} (h : Bs s q M) (w : Wf s) (k : Kn s s') : Bs s' q M := At.kn h w k
/-- What came behind is changed alone. -/
theorem Kn.app {s s1 s2 : St} {γ : Nat} (h : Kn s s1) (k : Kp (fun c => c = γ) s1 s2) (hγ : s.nx ≤ γ) : Kn s s2 := Kp.new h (k.mono fun _ e => Nat.le_of_eq e.symm) hγ
theorem Kn.call {s s1 s2 : St} (h : Kn s s1) (k : Kn s1 s2) : Kn s s2 := h.trans k
theorem cap_ok {n c : Nat} (h : c = least n 1 ∨ c = sure n) (hn : n < 18446744073709551616) : capOf c = n ∧ (capSure c = true → c = sure (capOf c)) := by
  rcases h with rfl | rfl
  · exact ⟨(cap_least hn).1, fun e => by rw [(cap_least hn).2.1] at e; cases e⟩
  · exact ⟨cap_sure.1, fun _ => by rw [cap_sure.1]⟩
theorem At.take {cs : List Value} (h : At s q cs) {n : Nat} (hn : n ≤ cs.length) : At s q (cs.take n) := by
  rcases h with ⟨rfl, h⟩ | ⟨b, o, rfl, h⟩
  · exact .inl ⟨by simp, h⟩
  · obtain ⟨l, h1, h2, h3⟩ := readAt_some h
    refine .inr ⟨b, o, rfl, ?_⟩
    rw [List.length_take, Nat.min_eq_left hn, readAt_of h1 (by omega)]
    conv => rhs; rw [h3]
    rw [List.take_take, Nat.min_eq_left hn]
theorem Bs.left {A A' : List Nat} (h : Bs s q (A ++ A')) : Bs s q A := by
  have := At.take (n := A.length) h (by simp)
  rwa [List.map_append, List.take_append_of_le_length (by simp), List.take_of_length_le (by simp)] at this
/-- How far two strings are the same. -/
def com : List Nat → List Nat → Nat
  | a :: x, b :: y => if a = b then com x y + 1 else 0
  | _, _ => 0
theorem com_drop {A B : List Nat} {i : Nat} (h1 : i < A.length) (h2 : i < B.length) : com (A.drop i) (B.drop i) = if A.getD i 0 = B.getD i 0 then com (A.drop (i + 1)) (B.drop (i + 1)) + 1 else 0 := by
  rw [List.drop_eq_getElem_cons h1, List.drop_eq_getElem_cons h2, com]
  simp only [List.getD_eq_getElem?_getD, List.getElem?_eq_getElem h1, List.getElem?_eq_getElem h2, Option.getD_some]
theorem com_end {A B : List Nat} {i : Nat} (h : A.length ≤ i ∨ B.length ≤ i) : com (A.drop i) (B.drop i) = 0 := by
  rcases h with h | h
  · rw [List.drop_eq_nil_of_le h]; cases B.drop i <;> rfl
  · rw [List.drop_eq_nil_of_le h]; cases A.drop i <;> rfl
theorem com_le : ∀ (A B : List Nat), com A B ≤ A.length ∧ com A B ≤ B.length
  | [], B => by cases B <;> exact ⟨Nat.zero_le _, Nat.zero_le _⟩
  | a :: A, [] => ⟨Nat.zero_le _, Nat.zero_le _⟩
  | a :: A, b :: B => by
    have := com_le A B
    rw [com]
    split <;> simp only [List.length_cons] <;> omega
theorem com_self : ∀ M : List Nat, com M M = M.length
  | [] => rfl
  | a :: M => by rw [com, if_pos rfl, com_self M]; rfl
theorem com_full : ∀ {M N : List Nat}, com M N = M.length → com M N = N.length → M = N
  | [], [], _, _ => rfl
  | [], b :: N, _, h => by cases h
  | a :: M, [], h, _ => by cases h
  | a :: M, b :: N, h, k => by
    rw [com] at h k
    split at h
    · rename_i e; rw [if_pos e] at k; simp only [List.length_cons, Nat.add_right_cancel_iff] at h k; rw [e, com_full h k]
    · cases h
/-- How two strings stand. -/
def cmp (M N : List Nat) : Int := if com M N = M.length ∧ com M N = N.length then 0 else if com M N = M.length then -1 else if com M N = N.length then 1 else if M.getD (com M N) 0 < N.getD (com M N) 0 then -1 else 1
theorem cmp_zero {M N : List Nat} : cmp M N = 0 ↔ M = N := by
  constructor
  · intro h
    unfold cmp at h
    split at h
    · rename_i e; exact com_full e.1 e.2
    · split at h
      · cases h
      · split at h
        · cases h
        · split at h <;> cases h
  · rintro rfl; unfold cmp; rw [com_self, if_pos ⟨rfl, rfl⟩]
end Go.Sy
