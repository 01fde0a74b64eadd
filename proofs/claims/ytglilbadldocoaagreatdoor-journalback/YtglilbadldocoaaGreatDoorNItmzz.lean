
namespace Go.Proofs.YtglilbadldocoaaGreatDoor.Nz
inductive It where
 | mk (l : Bool) (b : List Nat) (xs : List It)
theorem It.ind {P : It → Prop} (h : ∀ l b xs, (∀ x ∈ xs, P x) → P (.mk l b xs)) : ∀ x, P x :=
 fun x => It.rec (motive_1 := P) (motive_2 := fun xs => ∀ x ∈ xs, P x) (fun l b xs ih => h l b xs ih) (by simp) (fun a t ha ht => by
  intro x hx
  rcases List.mem_cons.1 hx with rfl | hx
  ·exact ha
  ·exact ht x hx) x
def It.l : It → Bool | .mk l _ _ => l
def It.b : It → List Nat | .mk _ b _ => b
def It.xs : It → List It | .mk _ _ xs => xs
def gd (s : List Nat) (i : Nat) : Nat := s.getD i 0
mutual
def dp : It → Nat
 | .mk l _ xs => if l then 1 + dpL xs else 0
def dpL : List It → Nat
 | [] => 0
 | x :: xs => max (dp x) (dpL xs)
end
theorem dp_mk (l b xs) : dp (.mk l b xs) = if l then 1 + dpL xs else 0 := by rw [dp]
theorem dpL_nil : dpL [] = 0 := by rw [dpL]
theorem dpL_cons (x xs) : dpL (x :: xs) = max (dp x) (dpL xs) := by rw [dpL]
theorem dp_le_dpL {x : It} {xs : List It} (h : x ∈ xs) : dp x ≤ dpL xs := by
 induction xs with
 | nil => cases h
 | cons a t ih =>
  rw [dpL_cons]
  rcases List.mem_cons.1 h with rfl | h
  ·omega
  ·have := ih h; omega
mutual
def may : It → Bool
 | .mk l b xs => if l then (b.isEmpty && mayL xs) else xs.isEmpty
def mayL : List It → Bool
 | [] => true
 | x :: xs => may x && mayL xs
end
theorem may_mk (l b xs) : may (.mk l b xs) = if l then (b.isEmpty && mayL xs) else xs.isEmpty := by rw [may]
theorem mayL_nil : mayL [] = true := by rw [mayL]
theorem mayL_cons (x xs) : mayL (x :: xs) = (may x && mayL xs) := by rw [mayL]
theorem mayL_iff (xs : List It) : mayL xs = true ↔ ∀ x ∈ xs, may x = true := by
 induction xs with
 | nil => simp [mayL_nil]
 | cons a t ih => rw [mayL_cons]; simp [ih]
def dg : Nat → Nat → List Nat
 | 0, _ => []
 | f + 1, n => if n = 0 then [] else dg f (n / 256) ++ [n % 256]
def digs (n : Nat) : List Nat := dg n n
theorem dg_fuel (f g n : Nat) (h1 : n ≤ f) (h2 : n ≤ g) : dg f n = dg g n := by
 induction f generalizing g n with
 | zero =>
   obtain rfl : n = 0 := by omega
   cases g <;> simp [dg]
 | succ f ih =>
  cases g with
  | zero =>
    obtain rfl : n = 0 := by omega
    simp [dg]
  | succ g =>
   unfold dg
   by_cases h : n = 0
   ·simp [h]
   ·rw [if_neg h, if_neg h, ih g (n / 256) (by omega) (by omega)]
theorem digs_zero : digs 0 = [] := rfl
theorem digs_pos {n : Nat} (h : 0 < n) : digs n = digs (n / 256) ++ [n % 256] := by
 unfold digs
 cases n with
 | zero => omega
 | succ n => rw [dg, if_neg (by omega), dg_fuel n ((n + 1) / 256) _ (by omega) (by omega)]
def num (s : List Nat) : Nat := s.foldl (fun n x => n * 256 + x) 0
theorem num_app1 (s : List Nat) (x : Nat) : num (s ++ [x]) = num s * 256 + x := by simp [num]
theorem num_digs (n : Nat) : num (digs n) = n := by
 induction n using Nat.strongRecOn with
 | _ n ih =>
  by_cases h : n = 0
  ·subst h; rfl
  ·rw [digs_pos (by omega), num_app1, ih _ (by omega)]; omega
theorem digs_len_pos {n : Nat} (h : 0 < n) : 0 < (digs n).length := by rw [digs_pos h]; simp
theorem digs_first {n : Nat} (h : 0 < n) : gd (digs n) 0 ≠ 0 := by
 induction n using Nat.strongRecOn with
 | _ n ih =>
  rw [digs_pos h]
  by_cases k : n / 256 = 0
  ·rw [k, digs_zero]
   simp [gd]
   omega
  ·have := ih (n / 256) (by omega) (by omega)
   have l := digs_len_pos (n := n / 256) (by omega)
   unfold gd at this ⊢
   rw [List.getD_eq_getElem?_getD] at this ⊢
   rw [List.getElem?_append_left l]
   exact this
theorem digs_len_le {n k : Nat} (h : n < 256 ^ k) : (digs n).length ≤ k := by
 induction k generalizing n with
 | zero =>
   obtain rfl : n = 0 := by simpa using h
   simp [digs_zero]
 | succ k ih =>
  by_cases h0 : n = 0
  ·subst h0; simp [digs_zero]
  ·rw [digs_pos (by omega), List.length_append]
   have := ih (n := n / 256) (by rw [Nat.pow_succ] at h; omega)
   simp
   omega
theorem num_inj_digs {s : List Nat} (hb : ∀ x ∈ s, x < 256) (hf : gd s 0 ≠ 0 ∨ s = []) : digs (num s) = s := by
 suffices ∀ (m : Nat) (s : List Nat), s.length = m → (∀ x ∈ s, x < 256) → (gd s 0 ≠ 0 ∨ s = []) → digs (num s) = s ∧ (s ≠ [] → 0 < num s) from (this _ s rfl hb hf).1
 intro m
 induction m with
 | zero =>
   intro s h _ _
   obtain rfl : s = [] := List.eq_nil_of_length_eq_zero h
   exact ⟨rfl, fun h => absurd rfl h⟩
 | succ m ih =>
  intro s hl hb hf
  obtain ⟨t, x, rfl⟩ : ∃ t x, s = t ++ [x] := ⟨s.dropLast, s.getLast (by intro e; simp [e] at hl), (List.dropLast_concat_getLast _).symm⟩
  have lt : t.length = m := by simpa using hl
  have hx : x < 256 := hb x (by simp)
  have ht : gd t 0 ≠ 0 ∨ t = [] := by
   cases t with
   | nil => exact Or.inr rfl
   | cons y t =>
     left; rcases hf with hf | hf
     ·simpa [gd] using hf
     ·simp at hf
  obtain ⟨h1, h2⟩ := ih t lt (fun y hy => hb y (by simp [hy])) ht
  have hp : 0 < num (t ++ [x]) := by
   rw [num_app1]
   by_cases e : t = []
   ·subst e
    have : x ≠ 0 := by
     rcases hf with hf | hf
     ·simpa [gd] using hf
     ·simp at hf
    omega
   ·have := h2 e; omega
  refine ⟨?_, fun _ => hp⟩
  rw [digs_pos hp, num_app1, show (num t * 256 + x) / 256 = num t by omega, show (num t * 256 + x) % 256 = x by omega, h1]
def alone (b : List Nat) : Bool := decide (b.length = 1) && decide (gd b 0 < 128)
def hdr (base n : Nat) : List Nat := if n < 56 then [base + n] else (base + 55 + (digs n).length) :: digs n
mutual
def form : It → List Nat
 | .mk l b xs => if l then hdr 192 (forms xs).length ++ forms xs else if alone b then b else hdr 128 b.length ++ b
def forms : List It → List Nat
 | [] => []
 | x :: xs => form x ++ forms xs
end
theorem form_mk (l b xs) : form (.mk l b xs) = if l then hdr 192 (forms xs).length ++ forms xs else if alone b then b else hdr 128 b.length ++ b := by rw [form]
theorem forms_nil : forms [] = [] := by rw [forms]
theorem forms_cons (x xs) : forms (x :: xs) = form x ++ forms xs := by rw [forms]
theorem hdr_pos (base n : Nat) : 0 < (hdr base n).length := by unfold hdr; split <;> simp
theorem form_pos (x : It) : 0 < (form x).length := by
 cases x with
 | mk l b xs =>
  rw [form_mk]
  split
  ·have := hdr_pos 192 (forms xs).length; simp; omega
  ·split
   ·rename_i h; simp [alone] at h; omega
   ·have := hdr_pos 128 b.length; simp; omega
inductive Rd where
 | ok (x : It) (e : Nat)
 | bad (p e : Nat)
def cut (s : List Nat) (a e : Nat) : List Nat := (s.take e).drop a
inductive Hd where
 | ok (a e : Nat)
 | bad (e : Nat)
def rdHead (s : List Nat) (p e m : Nat) : Hd :=
 if m < 56 then (if e - (p + 1) < m then .bad 50 else .ok (p + 1) (p + 1 + m))
 else if e - (p + 1) < m - 55 then .bad 50
 else if gd s (p + 1) = 0 then .bad 52
 else if 1048576 < num (cut s (p + 1) (p + 1 + (m - 55))) then .bad 54
 else if num (cut s (p + 1) (p + 1 + (m - 55))) < 56 then .bad 52
 else if e - (p + 1 + (m - 55)) < num (cut s (p + 1) (p + 1 + (m - 55))) then .bad 50
 else .ok (p + 1 + (m - 55)) (p + 1 + (m - 55) + num (cut s (p + 1) (p + 1 + (m - 55))))
def rdL (f : Nat → Nat → Rd) : Nat → Nat → Nat → List It → Rd
 | 0, _, e, acc => .ok (.mk true [] acc) e
 | n + 1, a, e, acc =>
  if a < e then
   match f a e with
   | .bad p c => .bad p c
   | .ok y a' => rdL f n a' e (acc ++ [y])
  else .ok (.mk true [] acc) e
def rdG (s : List Nat) (sub : Option (Nat → Nat → Rd)) (p e : Nat) : Rd :=
 if p = e then .bad p 50
 else if gd s p < 128 then .ok (.mk false [gd s p] []) (p + 1)
 else if gd s p < 192 then
  match rdHead s p e (gd s p - 128) with
  | .bad c => .bad p c
  | .ok a z => if z = a + 1 ∧ gd s a < 128 then .bad p 52 else .ok (.mk false (cut s a z) []) z
 else
  match sub with
  | none => .bad p 53
  | some f =>
   match rdHead s p e (gd s p - 192) with
   | .bad c => .bad p c
   | .ok a z => rdL f (z - a) a z []
def rd (s : List Nat) : Nat → Nat → Nat → Rd
 | 0 => rdG s none
 | d + 1 => rdG s (some (rd s d))
theorem rd_eq (s : List Nat) (d p e : Nat) : rd s d p e =
  if p = e then .bad p 50
  else if gd s p < 128 then .ok (.mk false [gd s p] []) (p + 1)
  else if gd s p < 192 then
   match rdHead s p e (gd s p - 128) with
   | .bad c => .bad p c
   | .ok a z => if z = a + 1 ∧ gd s a < 128 then .bad p 52 else .ok (.mk false (cut s a z) []) z
  else if d = 0 then .bad p 53
  else
    match rdHead s p e (gd s p - 192) with
    | .bad c => .bad p c
    | .ok a z => rdL (rd s (d - 1)) (z - a) a z [] := by
 cases d with
 | zero => rw [rd, rdG, if_pos (rfl : 0 = 0)]
 | succ d => rw [rd, rdG, if_neg (Nat.succ_ne_zero d), Nat.add_sub_cancel]
inductive Dec where
 | ok (x : It)
 | bad (p e : Nat)
def dec (s : List Nat) : Dec :=
 if 1048576 < s.length then .bad 0 54
 else match rd s 80 0 s.length with
  | .bad p e => .bad p e
  | .ok x e => if e < s.length then .bad e 51 else .ok x
def encE (x : It) : Nat := if 80 < dp x then 53 else if may x = false then 52 else if 1048576 < (form x).length then 54 else 0
def enc (x : It) : List Nat := if encE x = 0 then form x else []
theorem cut_len {s : List Nat} {a e : Nat} (h : e ≤ s.length) : (cut s a e).length = e - a := by simp [cut, Nat.min_eq_left h]
theorem cut_gd {s : List Nat} {a e i : Nat} (hi : a + i < e) : gd (cut s a e) i = gd s (a + i) := by
 unfold gd cut
 rw [List.getD_eq_getElem?_getD, List.getD_eq_getElem?_getD, List.getElem?_drop, List.getElem?_take, if_pos hi]
theorem gd_get {s : List Nat} {i : Nat} (h : i < s.length) : s[i] = gd s i := by
 unfold gd
 rw [List.getD_eq_getElem?_getD, List.getElem?_eq_getElem h]
 rfl
theorem ext_gd {s t : List Nat} (hl : s.length = t.length) (h : ∀ i, i < s.length → gd s i = gd t i) : s = t :=
 List.ext_getElem hl (fun i h1 h2 => by rw [gd_get h1, gd_get h2, h i h1])
theorem gd_app_l {s t : List Nat} {i : Nat} (h : i < s.length) : gd (s ++ t) i = gd s i := by
 unfold gd; rw [List.getD_eq_getElem?_getD, List.getD_eq_getElem?_getD, List.getElem?_append_left h]
theorem gd_app_r {s t : List Nat} {i : Nat} : gd (s ++ t) (s.length + i) = gd t i := by
 unfold gd; rw [List.getD_eq_getElem?_getD, List.getD_eq_getElem?_getD, List.getElem?_append_right (by omega), Nat.add_sub_cancel_left]
theorem cut_mem {s : List Nat} {a e x : Nat} (h : x ∈ cut s a e) : x ∈ s := List.mem_of_mem_take (List.mem_of_mem_drop h)
theorem cut_cat {s : List Nat} {a b c : Nat} (h1 : a ≤ b) (h2 : b ≤ c) (h3 : c ≤ s.length) : cut s a b ++ cut s b c = cut s a c := by
 apply ext_gd
 ·rw [List.length_append, cut_len (by omega), cut_len h3, cut_len h3]; omega
 ·intro i hi
  rw [List.length_append, cut_len (by omega), cut_len h3] at hi
  by_cases h : i < b - a
  ·rw [gd_app_l (by rw [cut_len (by omega)]; exact h), cut_gd (by omega), cut_gd (by omega)]
  ·have lc : (cut s a b).length = b - a := cut_len (by omega)
   obtain ⟨j, rfl⟩ : ∃ j, i = (cut s a b).length + j := ⟨i - (b - a), by omega⟩
   rw [gd_app_r, lc, cut_gd (by omega), cut_gd (by omega)]
   congr 1
   omega
theorem cut_one {s : List Nat} {p : Nat} (h : p < s.length) : cut s p (p + 1) = [gd s p] := by
 apply ext_gd
 ·rw [cut_len (by omega)]; simp
 ·intro i hi
  rw [cut_len (by omega)] at hi
  obtain rfl : i = 0 := by omega
  rw [cut_gd (by omega)]
  rfl
def At (t : List Nat) (p : Nat) (s : List Nat) : Prop := ∀ i, i < s.length → gd t (p + i) = gd s i
theorem At.left {t s u : List Nat} {p : Nat} (h : At t p (s ++ u)) : At t p s := fun i hi => by rw [h i (by simp; omega), gd_app_l hi]
theorem At.right {t s u : List Nat} {p : Nat} (h : At t p (s ++ u)) : At t (p + s.length) u := fun i hi => by rw [Nat.add_assoc, h (s.length + i) (by simp; omega), gd_app_r]
theorem At.cut {t s : List Nat} {p : Nat} (h : At t p s) (hl : p + s.length ≤ t.length) : cut t p (p + s.length) = s := ext_gd (by rw [cut_len hl]; omega) (fun i hi => by
 rw [cut_len hl] at hi
 rw [cut_gd (by omega), h i (by omega)])
theorem At.self (s : List Nat) : At s 0 s := fun i _ => by rw [Nat.zero_add]
theorem rdHead_hdr {t : List Nat} {p e base n : Nat} (hn : n ≤ 1048576) (h : At t p (hdr base n)) (hl : p + (hdr base n).length ≤ t.length) (he : p + (hdr base n).length ≤ e) :
  base ≤ gd t p ∧ gd t p ≤ base + 58 ∧ rdHead t p e (gd t p - base) = if e < p + (hdr base n).length + n then .bad 50 else .ok (p + (hdr base n).length) (p + (hdr base n).length + n) := by
 have h0 := h 0 (hdr_pos base n)
 rw [Nat.add_zero] at h0
 by_cases hs : n < 56
 ·have e1 : hdr base n = [base + n] := by unfold hdr; rw [if_pos hs]
  rw [e1] at h0 hl he ⊢
  have e0 : gd t p = base + n := h0
  simp only [List.length_singleton] at *
  refine ⟨by omega, by omega, ?_⟩
  unfold rdHead
  rw [e0, show base + n - base = n by omega, if_pos hs]
  by_cases q : e < p + 1 + n
  ·rw [if_pos q, if_pos (by omega)]
  ·rw [if_neg q, if_neg (by omega)]
 ·have e1 : hdr base n = (base + 55 + (digs n).length) :: digs n := by unfold hdr; rw [if_neg hs]
  have dl := digs_len_pos (n := n) (by omega)
  have dl3 := digs_len_le (n := n) (k := 3) (by omega)
  rw [e1] at h0 hl he h ⊢
  have e0 : gd t p = base + 55 + (digs n).length := h0
  have hr : At t (p + 1) (digs n) := At.right (s := [base + 55 + (digs n).length]) h
  simp only [List.length_cons] at *
  refine ⟨by omega, by omega, ?_⟩
  have hc : cut t (p + 1) (p + 1 + (digs n).length) = digs n := hr.cut (by omega)
  have hf : gd t (p + 1) ≠ 0 := by
   have := hr 0 dl
   rw [Nat.add_zero] at this
   rw [this]
   exact digs_first (by omega)
  unfold rdHead
  rw [e0, show base + 55 + (digs n).length - base = 55 + (digs n).length by omega, if_neg (by omega), show 55 + (digs n).length - 55 = (digs n).length by omega, if_neg (by omega), if_neg hf, hc, num_digs, if_neg (by omega), if_neg (by omega)]
  by_cases q : e < p + ((digs n).length + 1) + n
  ·rw [if_pos q, if_pos (by omega)]
  ·rw [if_neg q, if_neg (by omega), show p + 1 + (digs n).length = p + ((digs n).length + 1) by omega]
theorem rd_form : ∀ (x : It) (t : List Nat) (d p e : Nat), may x = true → dp x ≤ d → (form x).length ≤ 1048576 → At t p (form x) → p + (form x).length ≤ e → e ≤ t.length → rd t d p e = .ok x (p + (form x).length) := by
 refine It.ind (fun l b xs ih => ?_)
 intro t d p e hm hd hl hat hpe het
 have fp := form_pos (.mk l b xs)
 rw [rd_eq, if_neg (by omega)]
 cases l with
 | false =>
  have hx : xs = [] := by rw [may_mk] at hm; simpa using hm
  subst hx
  have ef : form (.mk false b []) = if alone b then b else hdr 128 b.length ++ b := by rw [form_mk]; simp
  rw [ef] at hat hl hpe ⊢
  by_cases ha : alone b = true
  ·rw [if_pos ha] at hat hl hpe ⊢
   obtain ⟨l1, l2⟩ : b.length = 1 ∧ gd b 0 < 128 := by simpa [alone] using ha
   have g0 : gd t p = gd b 0 := by have := hat 0 (by omega); simpa using this
   rw [g0, if_pos l2, l1]
   congr 1
   have : b = [gd b 0] := ext_gd (by simp [l1]) (fun i hi => by
    obtain rfl : i = 0 := by omega
    rfl)
   rw [← this]
  ·rw [if_neg ha] at hat hl hpe ⊢
   rw [List.length_append] at hl hpe ⊢
   obtain ⟨k1, k2, k3⟩ := rdHead_hdr (base := 128) (n := b.length) (e := e) (by omega) hat.left (by omega) (by omega)
   rw [if_neg (by omega)] at k3
   rw [if_neg (by omega), if_pos (by omega), k3]
   have hr := hat.right
   have hc := hr.cut (by omega)
   dsimp only
   rw [if_neg ?_, hc, Nat.add_assoc]
   rintro ⟨q1, q2⟩
   have hb1 : b.length = 1 := by omega
   have := hr 0 (by omega)
   rw [Nat.add_zero] at this
   rw [this] at q2
   exact ha (by simp [alone, hb1, q2])
 | true =>
  have hb : b = [] ∧ mayL xs = true := by rw [may_mk] at hm; simpa using hm
  obtain ⟨rfl, hmx⟩ := hb
  have ef : form (.mk true [] xs) = hdr 192 (forms xs).length ++ forms xs := by rw [form_mk]; simp
  rw [dp_mk] at hd
  simp only [if_true] at hd
  rw [ef] at hat hl hpe ⊢
  rw [List.length_append] at hl hpe ⊢
  obtain ⟨k1, k2, k3⟩ := rdHead_hdr (base := 192) (n := (forms xs).length) (e := e) (by omega) hat.left (by omega) (by omega)
  rw [if_neg (by omega)] at k3
  rw [if_neg (by omega), if_neg (by omega), if_neg (by omega), k3]
  dsimp only
  have hr := hat.right
  suffices ∀ (ys : List It) (acc : List It) (n a z : Nat), (∀ y ∈ ys, y ∈ xs) → At t a (forms ys) → z = a + (forms ys).length → z ≤ t.length → (forms ys).length ≤ n → (forms ys).length ≤ 1048576 → rdL (rd t (d - 1)) n a z acc = .ok (.mk true [] (acc ++ ys)) z by
   rw [this xs [] _ _ _ (fun y hy => hy) hr rfl (by omega) (by omega) (by omega)]
   simp [Nat.add_assoc]
  intro ys
  induction ys with
  | nil =>
   intro acc n a z _ _ hz _ _ _
   rw [forms_nil] at hz
   cases n with
   | zero => simp [rdL]
   | succ n => rw [rdL, if_neg (by simp at hz; omega)]; simp
  | cons y ys ih2 =>
   intro acc n a z hin hat2 hz hzt hn hl2
   rw [forms_cons] at hat2 hz hn hl2
   rw [List.length_append] at hz hn hl2
   have yp := form_pos y
   cases n with
   | zero => omega
   | succ n =>
    have hy := hin y (by simp)
    rw [rdL, if_pos (by omega), ih y hy t (d - 1) a z ((mayL_iff xs).1 hmx y hy) (by have := dp_le_dpL hy; omega) (by omega) hat2.left (by omega) (by omega)]
    dsimp only
    rw [ih2 (acc ++ [y]) n _ z (fun q hq => hin q (by simp [hq])) hat2.right (by omega) hzt (by omega) (by omega)]
    simp
theorem rdHead_ok {s : List Nat} {p e m a z base : Nat} (hs : ∀ x ∈ s, x < 256) (he : e ≤ s.length) (hp : p < e) (hg : gd s p = base + m) (hm : m < 64) (h : rdHead s p e m = .ok a z) : p < a ∧ a ≤ z ∧ z ≤ e ∧ z - a ≤ 1048576 + 55 ∧ hdr base (z - a) = cut s p a := by
 unfold rdHead at h
 by_cases h1 : m < 56
 ·rw [if_pos h1] at h
  by_cases h2 : e - (p + 1) < m
  ·rw [if_pos h2] at h; cases h
  ·rw [if_neg h2] at h
   injection h with ha hz
   subst ha
   subst hz
   refine ⟨by omega, by omega, by omega, by omega, ?_⟩
   unfold hdr
   rw [show p + 1 + m - (p + 1) = m by omega, if_pos h1, cut_one (by omega), hg]
 ·rw [if_neg h1] at h
  by_cases h2 : e - (p + 1) < m - 55
  ·rw [if_pos h2] at h; cases h
  ·rw [if_neg h2] at h
   by_cases h3 : gd s (p + 1) = 0
   ·rw [if_pos h3] at h; cases h
   ·rw [if_neg h3] at h
    by_cases h4 : 1048576 < num (cut s (p + 1) (p + 1 + (m - 55)))
    ·rw [if_pos h4] at h; cases h
    ·rw [if_neg h4] at h
     by_cases h5 : num (cut s (p + 1) (p + 1 + (m - 55))) < 56
     ·rw [if_pos h5] at h; cases h
     ·rw [if_neg h5] at h
      by_cases h6 : e - (p + 1 + (m - 55)) < num (cut s (p + 1) (p + 1 + (m - 55)))
      ·rw [if_pos h6] at h; cases h
      ·rw [if_neg h6] at h
       injection h with ha hz
       subst ha
       subst hz
       refine ⟨by omega, by omega, by omega, by omega, ?_⟩
       have hd := num_inj_digs (s := cut s (p + 1) (p + 1 + (m - 55))) (fun x hx => hs x (cut_mem hx)) (Or.inl (by rw [cut_gd (by omega)]; exact h3))
       have hln : (cut s (p + 1) (p + 1 + (m - 55))).length = m - 55 := by rw [cut_len (by omega)]; omega
       unfold hdr
       rw [Nat.add_sub_cancel_left, if_neg h5, hd, hln, ← cut_cat (s := s) (a := p) (b := p + 1) (c := p + 1 + (m - 55)) (by omega) (by omega) (by omega), cut_one (by omega), hg, show base + m = base + 55 + (m - 55) by omega]
       rfl
theorem rdL_ok {s : List Nat} {d : Nat}
  (ih : ∀ p e x z, e ≤ s.length → p ≤ e → rd s d p e = .ok x z → p < z ∧ z ≤ e ∧ may x = true ∧ dp x ≤ d ∧ form x = cut s p z) :
  ∀ (n a z : Nat) (acc : List It) (x : It) (e : Nat), z ≤ s.length → a ≤ z → z - a ≤ n → rdL (rd s d) n a z acc = .ok x e → ∃ ys, x = .mk true [] (acc ++ ys) ∧ e = z ∧ mayL ys = true ∧ dpL ys ≤ d ∧ forms ys = cut s a z := by
 intro n
 induction n with
 | zero =>
  intro a z acc x e hz haz hn h
  obtain rfl : a = z := by omega
  rw [rdL] at h
  injection h with h1 h2
  subst h1
  subst h2
  refine ⟨[], by simp, rfl, mayL_nil, by rw [dpL_nil]; omega, ?_⟩
  rw [forms_nil]
  exact (List.eq_nil_of_length_eq_zero (by rw [cut_len hz]; omega)).symm
 | succ n ihn =>
  intro a z acc x e hz haz hn h
  rw [rdL] at h
  by_cases q : a < z
  ·rw [if_pos q] at h
   cases hr : rd s d a z with
   | bad p c => rw [hr] at h; cases h
   | ok y a' =>
    rw [hr] at h
    dsimp only at h
    obtain ⟨k1, k2, k3, k4, k5⟩ := ih a z y a' hz haz hr
    obtain ⟨ys, e1, e2, e3, e4, e5⟩ := ihn a' z (acc ++ [y]) x e hz k2 (by omega) h
    refine ⟨y :: ys, by rw [e1]; simp, e2, by rw [mayL_cons, k3, e3]; rfl, by rw [dpL_cons]; omega, ?_⟩
    rw [forms_cons, k5, e5, cut_cat (by omega) k2 hz]
  ·rw [if_neg q] at h
   obtain rfl : a = z := by omega
   injection h with h1 h2
   subst h1
   subst h2
   refine ⟨[], by simp, rfl, mayL_nil, by rw [dpL_nil]; omega, ?_⟩
   rw [forms_nil]
   exact (List.eq_nil_of_length_eq_zero (by rw [cut_len hz]; omega)).symm
theorem rd_ok {s : List Nat} (hs : ∀ x ∈ s, x < 256) : ∀ (d p e : Nat) (x : It) (z : Nat), e ≤ s.length → p ≤ e → rd s d p e = .ok x z → p < z ∧ z ≤ e ∧ may x = true ∧ dp x ≤ d ∧ form x = cut s p z := by
 have gb : ∀ i, gd s i < 256 := fun i => by
  unfold gd
  rw [List.getD_eq_getElem?_getD]
  cases hi : s[i]? with
  | none => decide
  | some x => exact hs x (List.mem_of_getElem? hi)
 intro d
 induction d with
 | zero =>
  intro p e x z he hpe h
  rw [rd_eq] at h
  by_cases h1 : p = e
  ·rw [if_pos h1] at h; cases h
  ·rw [if_neg h1] at h
   by_cases h2 : gd s p < 128
   ·rw [if_pos h2] at h
    injection h with hx hz
    subst hx
    subst hz
    refine ⟨by omega, by omega, by rw [may_mk]; simp, by rw [dp_mk]; simp, ?_⟩
    rw [form_mk, cut_one (by omega), if_neg (by simp), if_pos (by simpa [alone, gd] using h2)]
   ·rw [if_neg h2] at h
    by_cases h3 : gd s p < 192
    ·rw [if_pos h3] at h
     cases hh : rdHead s p e (gd s p - 128) with
     | bad c => rw [hh] at h; cases h
     | ok a z' =>
      rw [hh] at h
      dsimp only at h
      by_cases h4 : z' = a + 1 ∧ gd s a < 128
      ·rw [if_pos h4] at h; cases h
      ·rw [if_neg h4] at h
       injection h with hx hz
       subst hx
       subst hz
       obtain ⟨k1, k2, k3, k4, k5⟩ := rdHead_ok (base := 128) hs he (by omega) (by omega) (by omega) hh
       have lz : (cut s a z').length = z' - a := cut_len (by omega)
       refine ⟨by omega, by omega, by rw [may_mk]; simp, by rw [dp_mk]; simp, ?_⟩
       have na : ¬ alone (cut s a z') = true := fun q => by
        obtain ⟨q1, q2⟩ : (cut s a z').length = 1 ∧ gd (cut s a z') 0 < 128 := by simpa [alone] using q
        rw [lz] at q1
        rw [cut_gd (by omega), Nat.add_zero] at q2
        exact h4 ⟨by omega, q2⟩
       rw [form_mk, if_neg (by simp), if_neg na, lz, k5, cut_cat (by omega) k2 (by omega)]
    ·rw [if_neg h3, if_pos rfl] at h; cases h
 | succ d ihd =>
  intro p e x z he hpe h
  rw [rd_eq] at h
  by_cases h1 : p = e
  ·rw [if_pos h1] at h; cases h
  ·rw [if_neg h1] at h
   by_cases h2 : gd s p < 128
   ·rw [if_pos h2] at h
    injection h with hx hz
    subst hx
    subst hz
    refine ⟨by omega, by omega, by rw [may_mk]; simp, by rw [dp_mk]; simp, ?_⟩
    rw [form_mk, cut_one (by omega), if_neg (by simp), if_pos (by simpa [alone, gd] using h2)]
   ·rw [if_neg h2] at h
    by_cases h3 : gd s p < 192
    ·rw [if_pos h3] at h
     cases hh : rdHead s p e (gd s p - 128) with
     | bad c => rw [hh] at h; cases h
     | ok a z' =>
      rw [hh] at h
      dsimp only at h
      by_cases h4 : z' = a + 1 ∧ gd s a < 128
      ·rw [if_pos h4] at h; cases h
      ·rw [if_neg h4] at h
       injection h with hx hz
       subst hx
       subst hz
       obtain ⟨k1, k2, k3, k4, k5⟩ := rdHead_ok (base := 128) hs he (by omega) (by omega) (by omega) hh
       have lz : (cut s a z').length = z' - a := cut_len (by omega)
       refine ⟨by omega, by omega, by rw [may_mk]; simp, by rw [dp_mk]; simp, ?_⟩
       have na : ¬ alone (cut s a z') = true := fun q => by
        obtain ⟨q1, q2⟩ : (cut s a z').length = 1 ∧ gd (cut s a z') 0 < 128 := by simpa [alone] using q
        rw [lz] at q1
        rw [cut_gd (by omega), Nat.add_zero] at q2
        exact h4 ⟨by omega, q2⟩
       rw [form_mk, if_neg (by simp), if_neg na, lz, k5, cut_cat (by omega) k2 (by omega)]
    ·rw [if_neg h3, if_neg (by omega)] at h
     cases hh : rdHead s p e (gd s p - 192) with
     | bad c => rw [hh] at h; cases h
     | ok a z' =>
      rw [hh] at h
      dsimp only at h
      have := gb p
      obtain ⟨k1, k2, k3, k4, k5⟩ := rdHead_ok (base := 192) hs he (by omega) (by omega) (by omega) hh
      obtain ⟨ys, e1, e2, e3, e4, e5⟩ := rdL_ok (d := d) ihd (z' - a) a z' [] x z (by omega) k2 (Nat.le_refl _) (by simpa using h)
      subst e1
      subst e2
      simp only [List.nil_append]
      refine ⟨by omega, by omega, by rw [may_mk]; simp [e3], by rw [dp_mk]; simp; omega, ?_⟩
      rw [form_mk, if_pos rfl, e5, cut_len (by omega), k5, cut_cat (by omega) k2 (by omega)]
end Go.Proofs.YtglilbadldocoaaGreatDoor.Nz
