import Derived.Test.YteldpcbhfbgomaaGreatDoorC1zz
import Derived.Test.YteldpcbhfbgomaaGreatDoorQFoldzz
import Derived.Test.YteldpcbhfbgomaaGreatDoorQRMixzz
import Derived.Test.YteldpcbhfbgomaaGreatDoorWezz
import Derived.Laws.Strings
namespace Go.Ev
open Go Go.RowKit
theorem stp_below {N : Nat} {E : En} {s : St} {w w' : World} (h : Rel N E s w) (b : Below w.heap.size w w') : Stp N E s w E s w' := by
 have hs := b.size
 refine ⟨.refl E, ⟨h.nx, h.lo, h.hi, h.base, Nat.le_trans h.flr hs, fun k o hk => ?_, h.flo, h.dis, h.grp, h.ro⟩, b.os, b.tape, b.output, hs, fun B hB _ => b.block B hB, fun k o hk ho => .inr ⟨k, o, hk, ho, rfl⟩⟩
 obtain ⟨h1, h2⟩ := h.ob k o hk
 refine ⟨h1, ?_⟩
 by_cases e : o = .dead
 ·subst e; trivial
 ·exact h2.keep (.refl E) h1 (b.block _ (h2.lt e))
end Go.Ev
namespace Go.Proofs.YteldpcbhfbgomaaGreatDoor.Dg
open Go Go.Ev Go.RowKit
def nats : List Value → Option (List Nat)
 | [] => some []
 | .int .u32 (.ofNat n) :: l => match nats l with
  | some r => cond (Nat.blt n 4294967296) (some (n :: r)) none
  | none => none
 | _ => none
def bytesN : List Value → Option (List Nat)
 | [] => some []
 | .int .u8 (.ofNat n) :: l => match bytesN l with
  | some r => cond (Nat.blt n 256) (some (n :: r)) none
  | none => none
 | _ => none
theorem nats_some : ∀ {l : List Value} {r : List Nat}, nats l = some r → l = r.map (fun n => .int .u32 (.ofNat n)) ∧ ∀ n ∈ r, n < 4294967296
 | [], r, h => by cases h; exact ⟨rfl, fun n hn => by cases hn⟩
 | v :: l, r, h => by
  unfold nats at h
  split at h
  ·rename_i e; cases e
  ·rename_i n l' e
   cases e
   split at h
   ·rename_i r' hr
    cases hb : Nat.blt n 4294967296 with
    | false => rw [hb] at h; cases h
    | true =>
     rw [hb] at h
     cases h
     obtain ⟨h1, h2⟩ := nats_some hr
     have hn : n < 4294967296 := Nat.le_of_ble_eq_true hb
     exact ⟨by rw [h1]; rfl, fun m hm => (List.mem_cons.1 hm).elim (fun e => by rw [e]; exact hn) (h2 m)⟩
   ·cases h
  ·cases h
theorem bytesN_some : ∀ {l : List Value} {r : List Nat}, bytesN l = some r → l = r.map (fun n => .int .u8 (.ofNat n)) ∧ ∀ n ∈ r, n < 256
 | [], r, h => by cases h; exact ⟨rfl, fun n hn => by cases hn⟩
 | v :: l, r, h => by
  unfold bytesN at h
  split at h
  ·rename_i e; cases e
  ·rename_i n l' e
   cases e
   split at h
   ·rename_i r' hr
    cases hb : Nat.blt n 256 with
    | false => rw [hb] at h; cases h
    | true =>
     rw [hb] at h
     cases h
     obtain ⟨h1, h2⟩ := bytesN_some hr
     have hn : n < 256 := Nat.le_of_ble_eq_true hb
     exact ⟨by rw [h1]; rfl, fun m hm => (List.mem_cons.1 hm).elim (fun e => by rw [e]; exact hn) (h2 m)⟩
   ·cases h
  ·cases h
def KV : List Value := KL.map fun n => .int .u32 (.ofNat n)
def out8 (s : W8) (t : St) : Rv := match s with
 | ⟨a, b, c, d, e, f, g, h⟩ => .ok (.agg ⟨[.int .u32 (.ofNat a), .int .u32 (.ofNat b), .int .u32 (.ofNat c), .int .u32 (.ofNat d), .int .u32 (.ofNat e), .int .u32 (.ofNat f), .int .u32 (.ofNat g), .int .u32 (.ofNat h)]⟩) t
def mixN (ws bs : Option (List Nat)) (ok : Bool) (t : St) : Rv := match ws, bs with
 | some [a, b, c, d, e, f, g, h], some l => cond ok (out8 (eb ⟨a, b, c, d, e, f, g, h⟩ l) t) .no
 | _, _ => .no
def bytesO (o : Option (List Value)) : Option (List Nat) := match o with
 | some l => bytesN l
 | none => none
def sameO (o : Option (List Value)) : Bool := match o with
 | some l => sameL l KV
 | none => false
def mixH (G : Nat) (args : List Value) (t : St) : Rv := match args with
 | [.agg ws, .slice (some ⟨b, off, none⟩) n _] => cond (Nat.beq n 64) (mixN (nats ws.toList) (bytesO (readAt t b off 64)) (sameO (readAt t G 0 64)) t) .no
 | _ => .no
theorem mixH_ok {P : Program} {N G : Nat} (hG : G < 1000) {f : FuncId}
  (hc : ∀ (w : World) (s : W8) (_ : Ok8 s) (a : Option Addr) (b off c : Nat) (B : Nat → Nat) (_ : View w a b off 64 (fun i => (B i : Int))) (_ : ∀ i, B i < 256) (_ : ∀ i, i < 64 → w.cell? ⟨G, i, none⟩ = some (.int .u32 (K i))) (_ : G < w.heap.size),
   Calls P f #[.agg (arr8 s), .slice a 64 c] w fun e w' => e = .returned (.agg (arr8 (fold1 s B))) ∧ Below w.heap.size w w')
  {args args' : List Value} {s s' : St} {v : Value} {E : En} {w : World} (h : Go.Ev.Rel N E s w) (ha : VRs E args args') (hx : mixH G args s = .ok v s') :
  Calls P f ⟨args'⟩ w fun e w' => ∃ E' v', e = .returned v' ∧ VR E' v v' ∧ Stp N E s w E' s' w' := by
 unfold mixH at hx
 split at hx
 case h_2 => cases hx
 rename_i ws b off n c
 cases hn : Nat.beq n 64 with
 | false => rw [hn] at hx; cases hx
 | true =>
 rw [hn] at hx
 have hn' := Nat.eq_of_beq_eq_true hn
 subst hn'
 have hx1 : mixN (nats ws.toList) (bytesO (readAt s b off 64)) (sameO (readAt s G 0 64)) s = .ok v s' := hx
 unfold mixN at hx1
 split at hx1
 case h_2 => cases hx1
 rename_i a8 b8 c8 d8 e8 f8 g8 h8 l hws hbs
 cases hok : sameO (readAt s G 0 64) with
 | false => rw [hok] at hx1; cases hx1
 | true =>
 rw [hok] at hx1
 cases ha with
 | cons _ p _ l' hp hl =>
 obtain ⟨q, rfl, hq⟩ := hl.one_inv
 obtain ⟨hb, c', rfl, _⟩ := hq.sl_inv
 obtain ⟨ws', rfl, hww⟩ := hp.agg_inv
 obtain ⟨n1, n2⟩ := nats_some hws
 have hok8 : Ok8 ⟨a8, b8, c8, d8, e8, f8, g8, h8⟩ := ⟨n2 _ (by simp), n2 _ (by simp), n2 _ (by simp), n2 _ (by simp), n2 _ (by simp), n2 _ (by simp), n2 _ (by simp), n2 _ (by simp)⟩
 have hws' : ws' = ws.toList := by
  refine VRs.plain_eq (p := plain 1) (fun v v' => plain_eq 1 v v') _ _ ?_ hww
  rw [n1]
  rfl
 unfold bytesO at hbs
 split at hbs
 case h_2 => cases hbs
 rename_i cells hcells
 obtain ⟨m1, m2⟩ := bytesN_some hbs
 subst m1
 have hlen : l.length = 64 := by
  have := readAt_len hcells
  rwa [List.length_map] at this
 obtain ⟨r', k1, k2⟩ := readAt_cell P h.obs hcells
 have e1 := k1.ints_eq
 subst e1
 unfold sameO at hok
 split at hok
 case h_2 => cases hok
 rename_i tab htab
 have e2 := sameL_eq hok
 subst e2
 obtain ⟨t', j1, j2⟩ := readAt_cell P h.obs htab
 have e3 : t' = KV := VRs.plain_eq (p := plain 1) (fun v v' => plain_eq 1 v v') _ _ (by kernel_rfl) j1
 subst e3
 obtain ⟨i1, i2⟩ := h.base G hG
 rw [i1, i2] at j2
 have hK : ∀ i, i < 64 → w.cell? ⟨G, i, none⟩ = some (.int .u32 (K i)) := by
  intro i hi
  have := j2 i (.int .u32 (K i)) (by
   unfold KV
   rw [List.getElem?_map, KL_get i hi, Nat.zero_add]
   rfl)
  simpa using this
 have hlt : G < w.heap.size := World.block_lt_of_cell? _ _ (hK 0 (by decide))
 have hV : View w (some ⟨E.ι b, E.sh b + off, none⟩) (E.ι b) (E.sh b + off) 64 (fun i => ((l.getD i 0 : Nat) : Int)) := by
  refine ⟨fun _ => rfl, fun i hi => ?_, fun i hi => ?_, by decide⟩
  ·have hg : l[i]? = some (l.getD i 0) := by
    rw [List.getD_eq_getElem?_getD, List.getElem?_eq_getElem (by omega)]; rfl
   exact k2 i _ (by rw [List.getElem?_map, hg]; rfl)
  ·have : l.getD i 0 < 256 := by
    rw [List.getD_eq_getElem?_getD, List.getElem?_eq_getElem (by omega)]
    exact m2 _ (List.getElem_mem _)
   omega
 have hB : ∀ i, l.getD i 0 < 256 := by
  intro i
  rcases Nat.lt_or_ge i l.length with hi | hi
  ·rw [List.getD_eq_getElem?_getD, List.getElem?_eq_getElem hi]
   exact m2 _ (List.getElem_mem _)
  ·rw [List.getD_eq_getElem?_getD, List.getElem?_eq_none hi]; decide
 have hrange : l = (List.range 64).map fun i => l.getD i 0 := by
  apply List.ext_getElem?
  intro i
  rw [List.getElem?_map]
  rcases Nat.lt_or_ge i 64 with hi | hi
  ·rw [List.getElem?_range hi, List.getElem?_eq_getElem (by omega), Option.map_some, List.getD_eq_getElem?_getD, List.getElem?_eq_getElem (by omega)]; rfl
  ·rw [List.getElem?_eq_none (by omega), List.getElem?_eq_none (by simpa using hi)]; rfl
 have hx2 : out8 (eb ⟨a8, b8, c8, d8, e8, f8, g8, h8⟩ l) s = .ok v s' := hx1
 rw [hrange, eb_eq] at hx2
 have call := hc w ⟨a8, b8, c8, d8, e8, f8, g8, h8⟩ hok8 (some ⟨E.ι b, E.sh b + off, none⟩) (E.ι b) (E.sh b + off) c' (fun i => l.getD i 0) hV hB hK hlt
 rw [show (⟨[.agg ⟨ws'⟩, .slice (some ⟨E.ι b, E.sh b + off, none⟩) 64 c']⟩ : Array Value) = #[.agg (arr8 ⟨a8, b8, c8, d8, e8, f8, g8, h8⟩), .slice (some ⟨E.ι b, E.sh b + off, none⟩) 64 c'] by rw [hws', n1]; rfl]
 refine call.mono fun e w' ⟨he, hbel⟩ => ?_
 refine ⟨E, _, he, ?_, ?_⟩
 ·generalize fold1 ⟨a8, b8, c8, d8, e8, f8, g8, h8⟩ (fun i => l.getD i 0) = z at hx2
  obtain ⟨a, b, c, d, e, f, g, h⟩ := z
  cases hx2
  exact plain_VR E 2 _ rfl
 ·have es : s' = s := by
   generalize fold1 ⟨a8, b8, c8, d8, e8, f8, g8, h8⟩ (fun i => l.getD i 0) = z at hx2
   obtain ⟨a, b, c, d, e, f, g, h⟩ := z
   cases hx2
   rfl
  subst es
  exact stp_below h hbel
def hooks (f : FuncId) : Option (List Value → St → Rv) :=
 cond (Nat.beq f 106) (some (mixH 4)) (cond (Nat.beq f 95) (some (mixH 1)) none)
theorem hooks_ok {N : Nat} : HookOk N Tryz.prog hooks := by
 intro f g hf args args' s s' v E w h ha hx
 unfold hooks at hf
 cases h1 : Nat.beq f 106 with
 | true =>
  rw [h1] at hf
  cases hf
  obtain rfl := Nat.eq_of_beq_eq_true h1
  exact mixH_ok (by decide) (fun w s hs a b off c B hv hB hK hw => folded_any w s hs a b off c B hv hB hK hw) h ha hx
 | false =>
  rw [h1] at hf
  cases h2 : Nat.beq f 95 with
  | true =>
   rw [h2] at hf
   cases hf
   obtain rfl := Nat.eq_of_beq_eq_true h2
   exact mixH_ok (by decide) (fun w s hs a b off c B hv hB hK hw => mixed_any w s hs a b off c B hv hB hK hw) h ha hx
  | false => rw [h2] at hf; cases hf
end Go.Proofs.YteldpcbhfbgomaaGreatDoor.Dg
namespace Go.Sy
def lx : List Nat → List Nat → Int
 | [], [] => 0
 | [], _ :: _ => -1
 | _ :: _, [] => 1
 | a :: A, b :: B => if a = b then lx A B else if a < b then -1 else 1
theorem cmp_lx : ∀ A B : List Nat, cmp A B = lx A B
 | [], [] => rfl
 | [], _ :: _ => rfl
 | _ :: _, [] => rfl
 | a :: A, b :: B => by
  have ih := cmp_lx A B
  rw [lx]
  by_cases h : a = b
  ·rw [if_pos h, ← ih]
   unfold cmp
   rw [com, if_pos h]
   simp only [List.length_cons, Nat.add_right_cancel_iff, List.getD_cons_succ]
  ·rw [if_neg h]
   unfold cmp
   rw [com, if_neg h, if_neg (by simp), if_neg (by simp), if_neg (by simp)]
   rfl
theorem lx_swap : ∀ A B : List Nat, lx B A = - lx A B
 | [], [] => rfl
 | [], _ :: _ => rfl
 | _ :: _, [] => rfl
 | a :: A, b :: B => by
  rw [lx, lx]
  by_cases h : a = b
  ·rw [if_pos h, if_pos h.symm]; exact lx_swap A B
  ·rw [if_neg h, if_neg (Ne.symm h)]
   by_cases k : a < b
   ·rw [if_pos k, if_neg (by omega)]; rfl
   ·rw [if_neg k, if_pos (by omega)]
theorem lx_trans : ∀ {A B C : List Nat}, lx A B ≤ 0 → lx B C ≤ 0 → lx A C ≤ 0 ∧ (lx A C = 0 → lx A B = 0 ∧ lx B C = 0)
 | [], [], C, _, h => ⟨h, fun e => ⟨rfl, e⟩⟩
 | [], _ :: _, [], _, h => by simp [lx] at h
 | [], _ :: _, _ :: _, _, _ => by simp [lx]
 | _ :: _, [], _, h, _ => by simp [lx] at h
 | _ :: _, _ :: _, [], _, h => by simp [lx] at h
 | a :: A, b :: B, c :: C, h, k => by
  simp only [lx] at h k ⊢
  by_cases h1 : a = b
  ·subst h1
   rw [if_pos rfl] at h
   rw [if_pos rfl]
   by_cases h2 : a = c
   ·subst h2
    rw [if_pos rfl] at k ⊢
    rw [if_pos rfl]
    exact lx_trans h k
   ·rw [if_neg h2] at k ⊢
    rw [if_neg h2]
    by_cases h3 : a < c
    ·rw [if_pos h3]; exact ⟨by decide, fun e => by cases e⟩
    ·rw [if_neg h3] at k; exact absurd k (by decide)
  ·rw [if_neg h1] at h ⊢
   by_cases h3 : a < b
   ·rw [if_pos h3] at h ⊢
    by_cases h2 : b = c
    ·subst h2; rw [if_neg h1, if_pos h3]; exact ⟨by decide, fun e => by cases e⟩
    ·rw [if_neg h2] at k
     by_cases h4 : b < c
     ·rw [if_neg (by omega), if_pos (by omega)]; exact ⟨by decide, fun e => by cases e⟩
     ·rw [if_neg h4] at k; exact absurd k (by decide)
   ·rw [if_neg h3] at h; exact absurd h (by decide)
def Lt (A B : List Nat) : Prop := cmp A B < 0
instance (A B : List Nat) : Decidable (Lt A B) := inferInstanceAs (Decidable (cmp A B < 0))
theorem Lt.irrefl (A : List Nat) : ¬ Lt A A := by unfold Lt; rw [cmp_zero.2 rfl]; decide
theorem cmp_swap (A B : List Nat) : cmp B A = - cmp A B := by rw [cmp_lx, cmp_lx, lx_swap]
theorem Lt.asymm {A B : List Nat} (h : Lt A B) : ¬ Lt B A := by unfold Lt at *; rw [cmp_swap]; omega
theorem Lt.ne {A B : List Nat} (h : Lt A B) : A ≠ B := fun e => by subst e; exact Lt.irrefl _ h
theorem Lt.or {A B : List Nat} (h : ¬ Lt A B) : Lt B A ∨ A = B := by
 unfold Lt at *
 rw [← cmp_zero, cmp_swap A B]
 omega
theorem Lt.ltle {A B C : List Nat} (h : Lt A B) (k : ¬ Lt C B) : Lt A C := by
 unfold Lt at *
 rw [cmp_lx] at *
 have k' : lx B C ≤ 0 := by rw [lx_swap C B]; omega
 obtain ⟨a, b⟩ := lx_trans (Int.le_of_lt h) k'
 rcases Int.lt_or_eq_of_le a with a | a
 ·exact a
 ·have := (b a).1; omega
theorem Lt.trans {A B C : List Nat} (h : Lt A B) (k : Lt B C) : Lt A C := h.ltle k.asymm
section
variable {α : Type} (f : α → List Nat)
def Sta (l l' : List α) : Prop := ∀ κ, l'.filter (fun x => decide (f x = κ)) = l.filter (fun x => decide (f x = κ))
def Srt (l : List α) : Prop := l.Pairwise fun x y => ¬ Lt (f y) (f x)
variable {f}
theorem Sta.refl {l : List α} : Sta f l l := fun _ => rfl
theorem Sta.trans {l l1 l2 : List α} (h : Sta f l l1) (k : Sta f l1 l2) : Sta f l l2 := fun κ => (k κ).trans (h κ)
theorem Sta.app {l l' m m' : List α} (h : Sta f l l') (k : Sta f m m') : Sta f (l ++ m) (l' ++ m') := fun κ => by rw [List.filter_append, List.filter_append, h κ, k κ]
theorem Sta.mem {l l' : List α} (h : Sta f l l') (x : α) : x ∈ l' ↔ x ∈ l := by
 have e := h (f x)
 have : ∀ m : List α, x ∈ m ↔ x ∈ m.filter fun y => decide (f y = f x) := fun m => by rw [List.mem_filter]; simp
 rw [this l', this l, e]
theorem Srt.app {l m : List α} (hl : Srt f l) (hm : Srt f m) (h : ∀ x ∈ l, ∀ y ∈ m, ¬ Lt (f y) (f x)) : Srt f (l ++ m) := List.pairwise_append.2 ⟨hl, hm, h⟩
theorem Srt.left {l m : List α} (h : Srt f (l ++ m)) : Srt f l := (List.pairwise_append.1 h).1
theorem Srt.right {l m : List α} (h : Srt f (l ++ m)) : Srt f m := (List.pairwise_append.1 h).2.1
theorem Srt.cross {l m : List α} (h : Srt f (l ++ m)) : ∀ x ∈ l, ∀ y ∈ m, ¬ Lt (f y) (f x) := (List.pairwise_append.1 h).2.2
theorem Srt.put {l m : List α} {x : α} (h : Srt f (l ++ m)) (h1 : ∀ y ∈ l, ¬ Lt (f x) (f y)) (h2 : ∀ y ∈ m, ¬ Lt (f y) (f x)) : Srt f (l ++ x :: m) := by
 refine h.left.app (List.pairwise_cons.2 ⟨h2, h.right⟩) fun a ha b hb => ?_
 rcases List.mem_cons.1 hb with rfl | hb
 ·exact h1 a ha
 ·exact h.cross a ha b hb
def Seg (f : α → List Nat) (l : List α) (lo hi : Nat) : Prop := Srt f ((l.drop lo).take (hi - lo))
theorem Seg.ahead {P M M' R : List α} {lo hi : Nat} (h : Seg f (P ++ M ++ R) lo hi) (hh : hi ≤ P.length) : Seg f (P ++ M' ++ R) lo hi := by
 unfold Seg at *
 by_cases hl : lo ≤ P.length
 ·have e : ∀ Z : List α, ((P ++ Z ++ R).drop lo).take (hi - lo) = (P.drop lo).take (hi - lo) := fun Z => by
   rw [List.append_assoc, List.drop_append_of_le_length hl, List.take_append_of_le_length (by rw [List.length_drop]; omega)]
  rw [e] at *; exact h
 ·rw [show hi - lo = 0 by omega]; exact .nil
theorem Seg.cut {l : List α} {a b b' : Nat} (h : Seg f l a b) (hb : l.length ≤ b') (hbb : b' ≤ b) : Seg f l a b' := by
 unfold Seg at *
 rwa [List.take_of_length_le (by rw [List.length_drop]; omega)] at *
theorem Seg.out {l : List α} {a b b' : Nat} (h : Seg f l a b) (hb : l.length ≤ b) : Seg f l a b' := by
 unfold Seg at *
 rw [List.take_of_length_le (by rw [List.length_drop]; omega)] at h
 exact h.sublist (List.take_sublist _ _)
end
def ins : List Ety → Ety → List Ety
 | [], e => [e]
 | d :: D, e => if Lt d.1 e.1 then d :: ins D e else if d.1 = e.1 then e :: D else e :: d :: D
def canon (L : List Ety) : List Ety := L.foldl ins []
def chg (D : List Ety) (c : Ety) : List Ety := canon (D.filter (fun x => decide (x.1 ≠ c.1)) ++ if c.2 = [] then [] else [c])
end Go.Sy
namespace Go.Sy
open Go Go.Ev
theorem eqV4 {q : Option Addr} {n c : Nat} : eqV 4 (.slice q n c) (.slice q n c) = true := by
 show (q == q && Nat.beq n n && Nat.beq c c) = true
 rw [Nat.beq_refl, Nat.beq_refl, beq_self_eq_true]; rfl
theorem BsV.kpN {s0 s : St} {v : Value} {A : List Nat} (h : BsV s0 v A) (w : Wf s0) (k : Kp (fun c => s0.nx ≤ c) s0 s) : BsV s v A := by
 obtain ⟨q, c, h1, h2, h3⟩ := h
 obtain ⟨γ, h4, h5⟩ := At.sl h2
 exact ⟨q, c, h1, (h4.kp w k (by have := h5 w; omega)).at, h3⟩
abbrev El := (Value × Value) × Ety
def cel (l : List El) : List Value := l.flatMap fun x => [x.1.1, x.1.2]
theorem cel_cons {x : El} {l : List El} : cel (x :: l) = x.1.1 :: x.1.2 :: cel l := rfl
theorem cel_length : ∀ l : List El, (cel l).length = l.length * 2
 | [] => rfl
 | x :: l => by rw [cel_cons, List.length_cons, List.length_cons, cel_length l, List.length_cons]; omega
theorem cel_get : ∀ {l : List El} {i : Nat} {x : El}, l[i]? = some x → ((cel l).drop (i * 2)).take 2 = [x.1.1, x.1.2]
 | [], i, x, h => by simp at h
 | y :: l, 0, x, h => by cases h; rfl
 | y :: l, i + 1, x, h => by rw [cel_cons, show (i + 1) * 2 = i * 2 + 1 + 1 by omega, List.drop_succ_cons, List.drop_succ_cons]; exact cel_get (l := l) h
theorem cel_set : ∀ {l : List El} {i : Nat} {x : El}, i < l.length → lov (cel l) (i * 2) [x.1.1, x.1.2] = cel (l.set i x)
 | [], i, x, h => by simp at h
 | y :: l, 0, x, _ => rfl
 | y :: l, i + 1, x, h => by
  have ih := cel_set (l := l) (i := i) (x := x) (by simpa using h)
  unfold lov at ih ⊢
  rw [cel_cons, show (i + 1) * 2 = i * 2 + 1 + 1 by omega, List.take_succ_cons, List.take_succ_cons, List.set_cons_succ, cel_cons, ← ih, show i * 2 + 1 + 1 + [x.1.1, x.1.2].length = i * 2 + [x.1.1, x.1.2].length + 1 + 1 by omega, List.drop_succ_cons, List.drop_succ_cons]
  rfl
structure Dt (s0 s : St) (b : Nat) (l : List El) (γ : Nat) : Prop where
 w0 : Wf s0
 kp : Kp (fun c => s0.nx ≤ c) s0 s
 rw : Rw s b (cel l) γ
 ge : s0.nx ≤ γ
 ks : ∀ x ∈ l, BsV s0 x.1.1 x.2.1 ∧ BsV s0 x.1.2 x.2.2
section
variable {s0 s s' : St} {b γ : Nat} {l : List El}
theorem Dt.wf (h : Dt s0 s b l γ) : Wf s := h.kp.wf h.w0
theorem Dt.kn (h : Dt s0 s b l γ) (k : Kn s s') : Dt s0 s' b l γ := ⟨h.w0, h.kp.trans (k.mono fun _ e => e.elim), h.rw.kp h.wf k id, h.ge, h.ks⟩
theorem Dt.at (h : Dt s0 s b l γ) : At s (some ⟨b, 0, none⟩) (cel l) := by
 have := (h.rw.sl (o := 0) (n := (cel l).length) (by omega)).at
 rwa [List.drop_zero, List.take_length] at this
theorem Dt.ldn (h : Dt s0 s b l γ) {i : Nat} {x : El} (hx : l[i]? = some x) : ldn s (qadd (some ⟨b, 0, none⟩) (i * 2)) 2 = some [x.1.1, x.1.2] := by
 have hi : i < l.length := (List.getElem?_eq_some_iff.1 hx).1
 rw [At.ldn h.at (by rw [cel_length]; omega) (by decide), cel_get hx]
theorem Dt.el (h : Dt s0 s b l γ) {i : Nat} {x : El} (hx : l[i]? = some x) : ∃ q c q' c', x.1.1 = .slice q x.2.1.length c ∧ x.1.2 = .slice q' x.2.2.length c' ∧ Bs s q x.2.1 ∧ Bs s q' x.2.2 ∧ x.2.1.length < 2 ^ 60 ∧ x.2.2.length < 2 ^ 60 := by
 obtain ⟨h1, h2⟩ := h.ks x (List.mem_of_getElem? hx)
 obtain ⟨q, c, e1, b1, l1⟩ := h1.kpN h.w0 h.kp
 obtain ⟨q', c', e2, b2, l2⟩ := h2.kpN h.w0 h.kp
 exact ⟨q, c, q', c', e1, e2, b1, b2, l1, l2⟩
theorem Dt.one (h : Dt s0 s b l γ) {i : Nat} {x : El} (hx : l[i]? = some x) : ∀ v ∈ [x.1.1, x.1.2], one v = true := by
 obtain ⟨q, c, q', c', e1, e2, _⟩ := h.el hx
 rw [e1, e2]
 intro v hv
 simp only [List.mem_cons, List.not_mem_nil, or_false] at hv
 rcases hv with rfl | rfl <;> rfl
theorem Dt.set (h : Dt s0 s b l γ) {i : Nat} {x : El} (hi : i < l.length) (hr : Rw s' b (lov (cel l) (0 + i * 2) [x.1.1, x.1.2]) γ) (k : Kp (fun c => c = γ) s s') (hx : BsV s0 x.1.1 x.2.1 ∧ BsV s0 x.1.2 x.2.2) : Dt s0 s' b (l.set i x) γ := by
 refine ⟨h.w0, h.kp.trans (k.mono fun c e => by rw [e]; exact h.ge), ?_, h.ge, fun y hy => ?_⟩
 ·rw [Nat.zero_add, cel_set hi] at hr; exact hr
 ·rcases List.mem_or_eq_of_mem_set hy with hy | rfl
  ·exact h.ks y hy
  ·exact hx
theorem Dt.len (_h : Dt s0 s b l γ) {i : Nat} (hi : i < l.length) : 0 + i * 2 + 2 ≤ (cel l).length := by rw [cel_length]; omega
theorem Dt.bs (h : Dt s0 s b l γ) {i : Nat} {x : El} (hx : l[i]? = some x) : BsV s0 x.1.1 x.2.1 ∧ BsV s0 x.1.2 x.2.2 := h.ks x (List.mem_of_getElem? hx)
end
end Go.Sy
namespace Go.Sy
open Go Go.Ev
section
variable {X : Fx} {env : Env} {df : List Deferred} {s : St} {Q : Post}
structure meet {α : Type} (I : α → Env) (S : α → St) (ok : α → Prop) (df : List Deferred) (e : Ex) (env : Env) (df' : List Deferred) (s' : St) : Prop where
 h : e = .normal ∧ ∃ i, ok i ∧ Sub (I i) env ∧ df' = df ∧ s' = S i
theorem meet.n {α : Type} {I : α → Env} {S : α → St} {ok : α → Prop} (i : α) (h : ok i) (h1 : Sub (I i) env) (h2 : s = S i) : meet I S ok df .normal env df s := ⟨rfl, i, h, h1, rfl, h2⟩
theorem meet.go {α : Type} {I : α → Env} {S : α → St} {ok : α → Prop} {rest : Code} (k : ∀ i, ok i → W X rest (I i) df (S i) Q) {e : Ex} {env' : Env} {df' : List Deferred} {s' : St} (m : meet I S ok df e env' df' s') : andThen X rest Q e env' df' s' := by
 obtain ⟨rfl, i, hi, hs, rfl, rfl⟩ := m.h
 exact andThen.n ((k i hi).sub hs)
theorem andThen.mono {c : Code} {Q Q' : Post} (h : ∀ e env df s, Q e env df s → Q' e env df s) {e : Ex} {env : Env} {df : List Deferred} {s : St} (m : andThen X c Q e env df s) : andThen X c Q' e env df s := by
 obtain ⟨m⟩ := m
 refine ⟨?_⟩
 cases e with
 | normal => exact ⟨m.w.mono h⟩
 | ret => exact h _ _ _ _ m
 | exit i => exact h _ _ _ _ m
 | goto i => exact h _ _ _ _ m
theorem W.meet {α : Type} (I : α → Env) (S : α → St) (ok : α → Prop) {c rest : Code} (h : W X c env df s (meet I S ok df)) (k : ∀ i, ok i → W X rest (I i) df (S i) Q) : W X c env df s (andThen X rest Q) := ⟨h.w.mono fun _ _ _ _ m => m.go k⟩
theorem Wo.meet {α : Type} (I : α → Env) (S : α → St) (ok : α → Prop) {all ops : List Oper} {c rest : Code} (h : Wo X all ops env df s (andThen X c (meet I S ok df))) (k : ∀ i, ok i → W X rest (I i) df (S i) Q) : Wo X all ops env df s (andThen X c (andThen X rest Q)) := ⟨h.w.mono fun _ _ _ _ m => m.mono fun _ _ _ _ m => m.go k⟩
theorem Wd.meet {α : Type} (I : α → Env) (S : α → St) (ok : α → Prop) {all : List Oper} {l : List Sp} {past : Past} {c rest : Code} (h : Wd X all l past env df s (andThen X c (meet I S ok df))) (k : ∀ i, ok i → W X rest (I i) df (S i) Q) : Wd X all l past env df s (andThen X c (andThen X rest Q)) := ⟨h.w.mono fun _ _ _ _ m => m.mono fun _ _ _ _ m => m.go k⟩
end
section
variable {α : Type} {f : α → List Nat}
end
end Go.Sy
namespace Go.Sy
open Go Go.Ev
theorem appc_ok {P : Program} {s : St} {e size : Nat} (hs : sizeOfT P e = some size) (hz : zeroFit P e size = true) {b n cap γ : Nat} {l : List Value} (hr : Rw s b l γ) {y : Value} {k : Nat} {new : List Value}
  (hk : lenOfV y = some k) (hy : cellsFrom s size k y = some new) (hl : new.length = k * size) (h1 : ∀ v ∈ new, one v = true) (hle : roomFor P e (n + k) = true) (hc : n + k ≤ cap) (hll : (n + k) * size ≤ l.length) :
  ∃ s', appendV P s e (.slice (some ⟨b, 0, none⟩) n (sure cap)) y = .ok (.val (.slice (some ⟨b, 0, none⟩) (n + k) (sure cap))) s' ∧ Rw s' b (lov l (n * size) new) γ ∧ s'.nx = s.nx ∧ Kp (fun x => x = γ) s s' := by
 obtain ⟨g, hr1, rfl⟩ := hr
 rw [Nat.add_mul] at hll
 obtain ⟨s', a1, a2, a3, a4⟩ := writeAt_ok hr1 (vs := new) (off := n * size) (by omega) h1
 refine ⟨s', ?_, ⟨g, a2, rfl⟩, a3, a4⟩
 have e0 : appendV P s e (.slice (some ⟨b, 0, none⟩) n (sure cap)) y = appendN P s e size (some ⟨b, 0, none⟩) n (sure cap) (n + k) new := by
  unfold appendV
  simp only [hs, hk, hy, fN_eq]
  rfl
 rw [e0]
 unfold appendN
 rw [hle, hz]
 show appendB s size b 0 n (sure cap) (n + k) new = _
 unfold appendB
 rw [cap_sure.1, show Nat.ble (n + k) cap = true from Nat.ble_eq_true_of_le hc]
 show (match writeAt s b (0 + n * size) new with | some s => Re.ok (.val (.slice (some ⟨b, 0, none⟩) (n + k) (sure cap))) s | none => .no) = _
 rw [Nat.zero_add, a1]
section
variable {X : Fx} {env : Env} {df : List Deferred} {s : St} {Q : Post} {all os : List Oper} {d : Option Nat} {ty : TypeId} {pos : String} {af : Array Edge} {g : Option (Nat × Bool)}
theorem Xv.appc {x y : Operand} {t u e n0 nu size : Nat} {z0 zu : Option (List Value)} {z : List Value} {t0 t1 tu : Nat} {ke ku : Sh} (ht : tk X.B.T t = some ⟨t0, n0, .sl e, z0⟩) (he : tk X.B.T e = some ⟨t1, size, ke, some z⟩) (hu : tk X.B.T u = some ⟨tu, nu, ku, zu⟩) (hn : notI ku = true)
  {b n cap : Nat} {v : Value} {γ k : Nat} {l new : List Value} (hx : ev env x = some (.slice (some ⟨b, 0, none⟩) n (sure cap))) (hy : ev env y = some v) (hr : Rw s b l γ) (hk : lenOfV v = some k) (hv : cellsFrom s size k v = some new) (hl : new.length = k * size) (h1 : ∀ v ∈ new, one v = true) {y0 : Nat} (hV : lkV X.B.V e = some y0) (hro : (5 * (n + k) + 3072) * y0 ≤ 1125899906842624) (hb : n + k ≤ 4611686018427387904) (hc : n + k ≤ cap) (hll : (n + k) * size ≤ l.length) :
  ∃ s', Xv X (.call ⟨.builtin .append, #[x, y], #[t, u]⟩) env s (.slice (some ⟨b, 0, none⟩) (n + k) (sure cap)) s' ∧ Rw s' b (lov l (n * size) new) γ ∧ s'.nx = s.nx ∧ Kp (fun x => x = γ) s s' := by
 obtain ⟨s', a, b1, c1, d1⟩ := appc_ok (P := X.P) (X.B.sz he) (X.B.zr he).2.2.2 hr hk hv hl h1 (X.B.room hV hro hb) hc hll
 refine ⟨s', fun tm hf => ?_, b1, c1, d1⟩
 show xAppend X.P [t, u] (opds tm [x, y]) s = _
 rw [evs_opds hf (xs := [x, y]) (vs := [.slice (some ⟨b, 0, none⟩) n (sure cap), v]) (by unfold evs evs evs; rw [hx, hy])]
 obtain ⟨td, hu1, hu2⟩ := und_notI (X.B.un hu) hn
 have ht1 : X.P.underlying t = some (.slice e) := X.B.un ht
 unfold xAppend
 simp only [ht1, show X.P.underlying u = some td from hu1]
 cases td <;> first | exact a | exact absurd rfl (hu2 _)
theorem Wo.appc {x y : Operand} {t u e n0 nu size : Nat} {z0 zu : Option (List Value)} {z : List Value} {t0 t1 tu : Nat} {ke ku : Sh} (hgd : wantsE all env g = some true) (ht : tk X.B.T t = some ⟨t0, n0, .sl e, z0⟩) (he : tk X.B.T e = some ⟨t1, size, ke, some z⟩) (hu : tk X.B.T u = some ⟨tu, nu, ku, zu⟩) (hn : notI ku = true) (hd : dOk X d = true)
  {b n cap : Nat} {v : Value} {γ k : Nat} {l new : List Value} (hx : ev env x = some (.slice (some ⟨b, 0, none⟩) n (sure cap))) (hy : ev env y = some v) (hr : Rw s b l γ) (hk : lenOfV v = some k) (hv : cellsFrom s size k v = some new) (hl : new.length = k * size) (h1 : ∀ v ∈ new, one v = true) {y0 : Nat} (hV : lkV X.B.V e = some y0) (hro : (5 * (n + k) + 3072) * y0 ≤ 1125899906842624) (hb : n + k ≤ 4611686018427387904) (hc : n + k ≤ cap) (hll : (n + k) * size ≤ l.length)
  (K : ∀ s', Rw s' b (lov l (n * size) new) γ → s'.nx = s.nx → Kp (fun x => x = γ) s s' → Wo X all os (up d (.slice (some ⟨b, 0, none⟩) (n + k) (sure cap)) env) df s' Q) : Wo X all (⟨d, .call ⟨.builtin .append, #[x, y], #[t, u]⟩, ty, pos, af, g⟩ :: os) env df s Q := by
 obtain ⟨s', a, b1, c1, d1⟩ := Xv.appc (X := X) (env := env) ht he hu hn hx hy hr hk hv hl h1 hV hro hb hc hll
 exact Wo.val hgd a hd (K s' b1 c1 d1)
theorem Wd.appc {i m : Nat} {L : List Sp} {past : Past} {x y : Operand} {t u e n0 nu size : Nat} {z0 zu : Option (List Value)} {z : List Value} {t0 t1 tu : Nat} {ke ku : Sh} (hgd : wantsE all env g = some true) (ht : tk X.B.T t = some ⟨t0, n0, .sl e, z0⟩) (he : tk X.B.T e = some ⟨t1, size, ke, some z⟩) (hu : tk X.B.T u = some ⟨tu, nu, ku, zu⟩) (hn : notI ku = true) (hd : dOk X d = true)
  {b n cap : Nat} {v : Value} {γ k : Nat} {l new : List Value} (hx : ev env x = some (.slice (some ⟨b, 0, none⟩) n (sure cap))) (hy : ev env y = some v) (hr : Rw s b l γ) (hk : lenOfV v = some k) (hv : cellsFrom s size k v = some new) (hl : new.length = k * size) (h1 : ∀ v ∈ new, one v = true) {y0 : Nat} (hV : lkV X.B.V e = some y0) (hro : (5 * (n + k) + 3072) * y0 ≤ 1125899906842624) (hb : n + k ≤ 4611686018427387904) (hc : n + k ≤ cap) (hll : (n + k) * size ≤ l.length)
  (K : ∀ s', Rw s' b (lov l (n * size) new) γ → s'.nx = s.nx → Kp (fun x => x = γ) s s' → Wd X all L ((some i, s') :: past) (up d (.slice (some ⟨b, 0, none⟩) (n + k) (sure cap)) env) df s' Q) : Wd X all (.mk .acts i ⟨d, .call ⟨.builtin .append, #[x, y], #[t, u]⟩, ty, pos, af, g⟩ m :: L) past env df s Q := by
 obtain ⟨s', a, b1, c1, d1⟩ := Xv.appc (X := X) (env := env) ht he hu hn hx hy hr hk hv hl h1 hV hro hb hc hll
 exact Wd.act hgd a hd (Nat.le_of_eq c1.symm) (K s' b1 c1 d1)
end
section
variable {X : Fx} {env : Env} {s : St}
theorem Xv.asB {t t0 n e : Nat} {z : Option (List Value)} {t1 n1 : Nat} {z1 : Option (List Value)} {x : Operand} {b o l c γ : Nat} {cs : List Value} (ht : tk X.B.T t = some ⟨t0, n, .sl e, z⟩) (he : tk X.B.T e = some ⟨t1, n1, .it .u8, z1⟩) (hx : ev env x = some (.slice (some ⟨b, o, none⟩) l c)) (hr : Rw s b cs γ) : Xv X (.convert t t x) env s (.slice (some ⟨b, o, none⟩) l c) s := fun tm hf => by
 obtain ⟨g, h1, _⟩ := hr
 show xConv X.P t t (opd tm x) s = _
 rw [ev_opd hf hx]
 have hu : X.P.underlying t = some (.slice e) := X.B.un ht
 have hv : X.P.underlying e = some (.int .u8) := X.B.un he
 unfold xConv
 simp only [hu, hv, isU8, Nat.beq_refl, Bool.and_true, cond]
 obtain ⟨hp, nx, gr⟩ := s
 have h1' : hp.get b = some (.row cs g) := h1
 unfold asBytes
 simp only [h1']
end
structure Own (s : St) (v : Value) (A X : List Nat) (γ : Nat) : Prop where
 ex : ∃ b c, v = .slice (some ⟨b, 0, none⟩) A.length c ∧ Rw s b ((A ++ X).map nB) γ ∧ capOf c = A.length + X.length ∧ (capSure c = true → c = sure (capOf c))
 lt : A.length < 2 ^ 60
theorem Own.bs {s : St} {v : Value} {A X : List Nat} {γ : Nat} (h : Own s v A X γ) : BsV s v A := by
 obtain ⟨b, c, h1, h2, _, _⟩ := h.ex
 refine ⟨_, c, h1, ?_, h.lt⟩
 have := (h2.sl (o := 0) (n := A.length) (by simp)).at
 rwa [List.drop_zero, List.map_append, List.take_append_of_le_length (by simp), List.take_of_length_le (by simp)] at this
theorem Own.kp {C : Nat → Prop} {s s' : St} {v : Value} {A X : List Nat} {γ : Nat} (h : Own s v A X γ) (w : Wf s) (k : Kp C s s') (hc : ¬ C γ) : Own s' v A X γ :=
 ⟨let ⟨b, c, h1, h2, h3, h4⟩ := h.ex; ⟨b, c, h1, h2.kp w k hc, h3, h4⟩, h.lt⟩
theorem Own.ltn {s : St} {v : Value} {A X : List Nat} {γ : Nat} (h : Own s v A X γ) (w : Wf s) : γ < s.nx := let ⟨_, _, _, h2, _, _⟩ := h.ex; (h2.lt w).2
end Go.Sy
namespace Go.Sy
open Go Go.Ev
def strB (A : List Nat) : ByteArray := ⟨⟨A.map UInt8.ofNat⟩⟩
theorem bytesOf_map : ∀ A : List Nat, bytesOf (A.map nB) = some (A.map UInt8.ofNat)
 | [] => rfl
 | a :: A => by
  show (match bytesOf (A.map nB) with | some bs => some (UInt8.ofNat a :: bs) | none => none) = _
  rw [bytesOf_map A]; rfl
section
variable {X : Fx} {env : Env} {s : St}
theorem Xv.b2s {src dst t0 n e t1 n1 t2 n2 : Nat} {z z1 z2 : Option (List Value)} {x : Operand} {q : Option Addr} {c : Nat} {A : List Nat} (hs : tk X.B.T src = some ⟨t0, n, .sl e, z⟩) (he : tk X.B.T e = some ⟨t1, n1, .it .u8, z1⟩) (hd : tk X.B.T dst = some ⟨t2, n2, .str, z2⟩) (hx : ev env x = some (.slice q A.length c)) (hA : Bs s q A) : Xv X (.convert src dst x) env s (.string (strB A)) s := fun tm hf => by
 show xConv X.P src dst (opd tm x) s = _
 rw [ev_opd hf hx]
 have h1 : X.P.underlying src = some (.slice e) := X.B.un hs
 have h2 : X.P.underlying dst = some .string := X.B.un hd
 have h3 : X.P.underlying e = some (.int .u8) := X.B.un he
 unfold xConv
 simp only [h1, h2]
 unfold toStr
 simp only [h3, isU8, cond, hA.cells, bytesOf_map]
 rfl
theorem beq_str (a b : ByteArray) : (a.toList == b.toList) = decide (a = b) := by
 rw [ByteArray.toList_eq, ByteArray.toList_eq]
 obtain ⟨⟨x⟩⟩ := a
 obtain ⟨⟨y⟩⟩ := b
 by_cases h : x = y
 ·subst h; rw [decide_eq_true rfl]; exact beq_self_eq_true _
 ·rw [decide_eq_false fun e => h (by injection e with e; injection e)]; exact beq_eq_false_iff_ne.2 h
theorem Xv.seq {t t' : TypeId} {x y : Operand} {a b : ByteArray} (hx : ev env x = some (.string a)) (hy : ev env y = some (.string b)) : Xv X (.binOp .eql t x y t') env s (.bool (decide (a = b))) s := fun tm hf => by
 show xBin X.P .eql t x y (opd tm x) (opd tm y) s = _
 rw [ev_opd hf hx, ev_opd hf hy]
 show okB (a.toList == b.toList) s = _
 rw [beq_str]; cases decide (a = b) <;> rfl
theorem Xv.sne {t t' : TypeId} {x y : Operand} {a b : ByteArray} (hx : ev env x = some (.string a)) (hy : ev env y = some (.string b)) : Xv X (.binOp .neq t x y t') env s (.bool (decide (a ≠ b))) s := fun tm hf => by
 show xBin X.P .neq t x y (opd tm x) (opd tm y) s = _
 rw [ev_opd hf hx, ev_opd hf hy]
 show okB (!(a.toList == b.toList)) s = _
 rw [beq_str, ← decide_not]; cases decide (a ≠ b) <;> rfl
end
end Go.Sy
