import Derived.Test.YtglilbadldocoaaGreatDoorW7zz
import Derived.Test.YtglilbadldocoaaGreatDoorHizz
import Derived.Test.YtglilbadldocoaaGreatDoorQFoldzz
import Derived.Test.YtglilbadldocoaaGreatDoorQEbzz
import Derived.Test.YtglilbadldocoaaGreatDoorHjzz
namespace Go.Sy
open Go Go.Ev
variable {s : St} {q r : Option Addr} {c d : Nat} {M N : List Nat}
theorem one_nB {A : List Nat} : ∀ v ∈ A.map nB, one v = true := fun v hv => by
 obtain ⟨a, _, rfl⟩ := List.mem_map.1 hv; rfl
theorem mkRow_kn {s : St} {cs : List Value} : Kn s (mkRow s cs) := newRow_kn
theorem mkRow_wf {s : St} {cs : List Value} (w : Wf s) : Wf (mkRow s cs) := newRow_kn.wf w
theorem mkRow_rw {s : St} {cs : List Value} : Rw (mkRow s cs) s.nx cs s.nx := .new
theorem mkRow_sl {s : St} {cs : List Value} : Sl (mkRow s cs) (some ⟨s.nx, 0, none⟩) cs s.nx := by
 have := (mkRow_rw (s := s) (cs := cs)).sl (o := 0) (n := cs.length) (by omega)
 rwa [List.drop_zero, List.take_length] at this
theorem Gw.mk0 {s : St} {cs : List Value} {n size : Nat} (h : cs.length = n * size) : Gw (mkRow s cs) (some ⟨s.nx, 0, none⟩) n (sure n) size cs s.nx := ⟨h, .inr ⟨s.nx, 0, rfl, newRow_get, rfl, .inr rfl⟩⟩
theorem Bs.cells {A : List Nat} (h : Bs s q A) : cellsFrom s 1 A.length (.slice q A.length c) = some (A.map nB) := cells_at h (by simp) (by decide)
theorem Bs.nil_of (h : Bs s none M) : M = [] := by
 rcases h with ⟨h, _⟩ | ⟨b, o, h, _⟩
 ·simpa using h
 ·cases h
theorem Bs.kn {s' : St} (h : Bs s q M) (w : Wf s) (k : Kn s s') : Bs s' q M := At.kn h w k
theorem Kn.app {s s1 s2 : St} {γ : Nat} (h : Kn s s1) (k : Kp (fun c => c = γ) s1 s2) (hγ : s.nx ≤ γ) : Kn s s2 := Kp.new h (k.mono fun _ e => Nat.le_of_eq e.symm) hγ
theorem Kn.call {s s1 s2 : St} (h : Kn s s1) (k : Kn s1 s2) : Kn s s2 := h.trans k
theorem cap_ok {n c : Nat} (h : c = least n 1 ∨ c = sure n) (hn : n < 18446744073709551616) : capOf c = n ∧ (capSure c = true → c = sure (capOf c)) := by
 rcases h with rfl | rfl
 ·exact ⟨(cap_least hn).1, fun e => by rw [(cap_least hn).2.1] at e; cases e⟩
 ·exact ⟨cap_sure.1, fun _ => by rw [cap_sure.1]⟩
theorem At.take {cs : List Value} (h : At s q cs) {n : Nat} (hn : n ≤ cs.length) : At s q (cs.take n) := by
 rcases h with ⟨rfl, h⟩ | ⟨b, o, rfl, h⟩
 ·exact .inl ⟨by simp, h⟩
 ·obtain ⟨l, h1, h2, h3⟩ := readAt_some h
  refine .inr ⟨b, o, rfl, ?_⟩
  rw [List.length_take, Nat.min_eq_left hn, readAt_of h1 (by omega)]
  conv => rhs; rw [h3]
  rw [List.take_take, Nat.min_eq_left hn]
def com : List Nat → List Nat → Nat
 | a :: x, b :: y => if a = b then com x y + 1 else 0
 | _, _ => 0
theorem com_drop {A B : List Nat} {i : Nat} (h1 : i < A.length) (h2 : i < B.length) : com (A.drop i) (B.drop i) = if A.getD i 0 = B.getD i 0 then com (A.drop (i + 1)) (B.drop (i + 1)) + 1 else 0 := by
 rw [List.drop_eq_getElem_cons h1, List.drop_eq_getElem_cons h2, com]
 simp only [List.getD_eq_getElem?_getD, List.getElem?_eq_getElem h1, List.getElem?_eq_getElem h2, Option.getD_some]
theorem com_end {A B : List Nat} {i : Nat} (h : A.length ≤ i ∨ B.length ≤ i) : com (A.drop i) (B.drop i) = 0 := by
 rcases h with h | h
 ·rw [List.drop_eq_nil_of_le h]; cases B.drop i <;> rfl
 ·rw [List.drop_eq_nil_of_le h]; cases A.drop i <;> rfl
theorem com_le : ∀ (A B : List Nat), com A B ≤ A.length ∧ com A B ≤ B.length
 | [], B => by cases B <;> exact ⟨Nat.zero_le _, Nat.zero_le _⟩
 | a :: A, [] => ⟨Nat.zero_le _, Nat.zero_le _⟩
 | a :: A, b :: B => by
  have := com_le A B
  rw [com]
  split <;> simp only [List.length_cons] <;> omega
theorem com_self : ∀ M : List Nat, com M M = M.length
 | [] => rfl
 | a :: M => by rw [com, if_pos rfl, com_self M]; rfl
theorem com_full : ∀ {M N : List Nat}, com M N = M.length → com M N = N.length → M = N
 | [], [], _, _ => rfl
 | [], b :: N, _, h => by cases h
 | a :: M, [], h, _ => by cases h
 | a :: M, b :: N, h, k => by
  rw [com] at h k
  split at h
  ·rename_i e; rw [if_pos e] at k; simp only [List.length_cons, Nat.add_right_cancel_iff] at h k; rw [e, com_full h k]
  ·cases h
def cmp (M N : List Nat) : Int := if com M N = M.length ∧ com M N = N.length then 0 else if com M N = M.length then -1 else if com M N = N.length then 1 else if M.getD (com M N) 0 < N.getD (com M N) 0 then -1 else 1
theorem cmp_zero {M N : List Nat} : cmp M N = 0 ↔ M = N := by
 constructor
 ·intro h
  unfold cmp at h
  split at h
  ·rename_i e; exact com_full e.1 e.2
  ·split at h
   ·cases h
   ·split at h
    ·cases h
    ·split at h <;> cases h
 ·rintro rfl; unfold cmp; rw [com_self, if_pos ⟨rfl, rfl⟩]
end Go.Sy
namespace Go.Sy
open Go Go.Ev Go.RowKit
def ab (H : Nat) (v : Value) : Value := match v with
 | .bool b => .bool b
 | .int k n => .int k n
 | .string t => .string t
 | .pointer none => .pointer none
 | .pointer (some ⟨b, o, none⟩) => if b < H then .pointer (some ⟨1000 + b, o, none⟩) else .chan (some 0)
 | .slice none n c => .slice none n c
 | .slice (some ⟨b, o, p⟩) n c => if n = 0 then .slice (some ⟨0, 0, some 0⟩) 0 0 else if b < H ∧ p = none then .slice (some ⟨1000 + b, o, none⟩) n (sure c) else .chan (some 0)
 | .nilFunc => .nilFunc
 | .nilIface => .nilIface
 | .map none => .map none
 | v => .chan (if one v = true then some 0 else none)
def abv (H : Nat) (v : Value) : Value := match v with
 | .agg cs => .agg ⟨cs.toList.map (ab H)⟩
 | v => ab H v
def En0 (H : Nat) : En := { nx := 1000 + H, ι := fun b => if b < 1000 then b else b - 1000, sh := fun _ => 0, sz := fun _ => 0 }
theorem ab_VR (H : Nat) (v : Value) : VR (En0 H) (ab H v) v := by
 have hι : ∀ b, (En0 H).ι (1000 + b) = b := fun b => by show (if 1000 + b < 1000 then 1000 + b else 1000 + b - 1000) = b; rw [if_neg (by omega)]; omega
 unfold ab
 split
 ·exact .bool _
 ·exact .int _ _
 ·exact .str _
 ·exact .pnil
 ·rename_i b o
  split
  ·rename_i h
   have := VR.ptr (E := En0 H) (1000 + b) o (by show 1000 + b < 1000 + H; omega)
   rw [hι, show (En0 H).sh (1000 + b) + o = o from Nat.zero_add o] at this; exact this
  ·exact .top _ rfl
 ·exact .snil _ _
 ·rename_i b o p n c
  split
  ·rename_i h
   subst h
   exact .slV _ 0 _ _
  ·split
   ·rename_i h
    obtain ⟨h, rfl⟩ := h
    have := VR.slS (E := En0 H) (1000 + b) o n c (by show 1000 + b < 1000 + H; omega)
    rw [hι, show (En0 H).sh (1000 + b) + o = o from Nat.zero_add o] at this; exact this
   ·exact .top _ rfl
 ·exact .fnil
 ·exact .inil
 ·exact .mnil
 ·split
  ·rename_i h; exact .top _ h
  ·exact .any _
theorem abs_VRs (H : Nat) : ∀ l : List Value, VRs (En0 H) (l.map (ab H)) l
 | [] => .nil
 | v :: l => .cons _ _ _ _ (ab_VR H v) (abs_VRs H l)
theorem abv_VR (H : Nat) (v : Value) : VR (En0 H) (abv H v) v := by
 unfold abv
 split
 ·rename_i cs; exact .agg _ _ (abs_VRs H cs.toList)
 ·exact ab_VR H v
theorem abvs_VRs (H : Nat) : ∀ l : List Value, VRs (En0 H) (l.map (abv H)) l
 | [] => .nil
 | v :: l => .cons _ _ _ _ (abv_VR H v) (abvs_VRs H l)
def ob0 (w : World) (b : Nat) : Option Ob := match w.heap[b]? with
 | some (.cells c _ _) => some (.ro (c.toList.map (ab w.heap.size)))
 | _ => none
def put0 (w : World) (t : Tr Ob) (b : Nat) : Tr Ob := match ob0 w b with
 | some o => (if b < 1000 then t.set o b else t).set o (1000 + b)
 | none => t
def hp0 (w : World) : Nat → Tr Ob
 | 0 => .nil
 | n + 1 => put0 w (hp0 w n) n
theorem hp0_get (w : World) : ∀ n k, (hp0 w n).get k = if k < 1000 then (if k < n then ob0 w k else none) else (if k - 1000 < n then ob0 w (k - 1000) else none)
 | 0, k => by show (Tr.nil : Tr Ob).get k = _; rw [Tr.get_nil]; split <;> rfl
 | n + 1, k => by
  have ih := hp0_get w n
  show (put0 w (hp0 w n) n).get k = _
  unfold put0
  cases ho : ob0 w n with
  | none =>
   simp only [ih]
   by_cases h1 : k < 1000
   ·rw [if_pos h1, if_pos h1]
    by_cases h2 : k = n
    ·subst h2; rw [if_neg (Nat.lt_irrefl _), if_pos (Nat.lt_succ_self _), ho]
    ·by_cases h3 : k < n
     ·rw [if_pos h3, if_pos (by omega)]
     ·rw [if_neg h3, if_neg (by omega)]
   ·rw [if_neg h1, if_neg h1]
    by_cases h2 : k - 1000 = n
    ·rw [if_neg (by omega), if_pos (by omega), h2, ho]
    ·by_cases h3 : k - 1000 < n
     ·rw [if_pos h3, if_pos (by omega)]
     ·rw [if_neg h3, if_neg (by omega)]
  | some o =>
   simp only [get_set']
   by_cases h0 : k = 1000 + n
   ·rw [if_pos h0, if_neg (by omega), if_pos (by omega), show k - 1000 = n by omega, ho]
   ·rw [if_neg h0]
    by_cases h1 : k < 1000
    ·rw [if_pos h1]
     by_cases h2 : k = n
     ·subst h2; rw [if_pos h1, get_set', if_pos rfl, if_pos (Nat.lt_succ_self _), ho]
     ·have e : (if n < 1000 then (hp0 w n).set o n else hp0 w n).get k = (hp0 w n).get k := by
       split
       ·rw [get_set', if_neg h2]
       ·rfl
      rw [e, ih, if_pos h1]
      by_cases h3 : k < n
      ·rw [if_pos h3, if_pos (by omega)]
      ·rw [if_neg h3, if_neg (by omega)]
    ·rw [if_neg h1]
     have e : (if n < 1000 then (hp0 w n).set o n else hp0 w n).get k = (hp0 w n).get k := by
      split
      ·rw [get_set', if_neg (by omega)]
      ·rfl
     rw [e, ih, if_neg h1]
     by_cases h3 : k - 1000 < n
     ·rw [if_pos h3, if_pos (by omega)]
     ·rw [if_neg h3, if_neg (by omega)]
def st0 (w : World) : St := .mk (hp0 w w.heap.size) (1000 + w.heap.size) .nil
theorem st0_get (w : World) (k : Nat) : (st0 w).hp.get k = if k < 1000 then ob0 w k else ob0 w (k - 1000) := by
 show (hp0 w w.heap.size).get k = _
 rw [hp0_get]
 have hn : ∀ b, ¬ b < w.heap.size → ob0 w b = none := fun b hb => by unfold ob0; rw [Array.getElem?_eq_none (by omega)]
 split
 ·split
  ·rfl
  ·rename_i h; rw [hn _ h]
 ·split
  ·rfl
  ·rename_i h; rw [hn _ h]
theorem ob0_some {w : World} {b : Nat} {o : Ob} (h : ob0 w b = some o) : ∃ c t fr, w.heap[b]? = some (.cells c t fr) ∧ o = .ro (c.toList.map (ab w.heap.size)) ∧ b < w.heap.size := by
 unfold ob0 at h
 split at h
 ·rename_i c t fr hc; cases h; exact ⟨c, t, fr, hc, rfl, (Array.getElem?_eq_some_iff.1 hc).1⟩
 ·cases h
theorem st0_some {w : World} {k : Nat} {o : Ob} (h : (st0 w).hp.get k = some o) : ∃ c t fr, w.heap[(En0 w.heap.size).ι k]? = some (.cells c t fr) ∧ o = .ro (c.toList.map (ab w.heap.size)) ∧ (En0 w.heap.size).ι k < w.heap.size ∧ k < 1000 + w.heap.size := by
 rw [st0_get] at h
 show ∃ c t fr, w.heap[if k < 1000 then k else k - 1000]? = _ ∧ _ ∧ (if k < 1000 then k else k - 1000) < _ ∧ _
 split at h
 ·rename_i hk; rw [if_pos hk]; obtain ⟨c, t, fr, h1, h2, h3⟩ := ob0_some h; exact ⟨c, t, fr, h1, h2, h3, by omega⟩
 ·rename_i hk; rw [if_neg hk]; obtain ⟨c, t, fr, h1, h2, h3⟩ := ob0_some h; exact ⟨c, t, fr, h1, h2, h3, by omega⟩
theorem rel0 (w : World) : Rel w.heap.size (En0 w.heap.size) (st0 w) w := by
 refine ⟨rfl, by show 1000 ≤ 1000 + w.heap.size; omega, Nat.le_succ _, fun b hb => ⟨if_pos hb, rfl⟩, Nat.le_refl _, fun b o hb => ?_, fun b o hb ho => ?_, fun b o b' o' hb _ ho => ?_, fun b o hb hg => ?_, fun b o hb _ _ => ?_⟩
 ·obtain ⟨c, t, fr, h1, rfl, _, h3⟩ := st0_some hb
  refine ⟨h3, c, t, fr, h1, fun i v hv => ?_⟩
  rw [List.getElem?_map, Array.getElem?_toList] at hv
  cases hc : c[i]? with
  | none => rw [hc] at hv; cases hv
  | some u => rw [hc] at hv; cases hv; exact ⟨u, by show c[0 + i]? = _; rw [Nat.zero_add]; exact hc, ab_VR _ u⟩
 ·obtain ⟨c, t, fr, h1, rfl, _⟩ := st0_some hb; exact ho.elim
 ·obtain ⟨c, t, fr, h1, rfl, _⟩ := st0_some hb; exact ho.elim
 ·obtain ⟨c, t, fr, h1, rfl, _⟩ := st0_some hb; exact absurd rfl hg
 ·obtain ⟨c, t, fr, h1, rfl, h2, _⟩ := st0_some hb; exact h2
theorem wf0 (w : World) : Wf (st0 w) := by
 have hg : ∀ g, (st0 w).gr.get g = none := fun g => Tr.get_nil
 refine ⟨fun b o hb => ?_, fun g ms m o h => ?_, fun b cs hb => hg b, fun b cs g hb => ?_, fun b cs g hb => ?_, fun g ms h => ?_, fun g ms m h => ?_, by show 0 < 1000 + w.heap.size; omega⟩
 ·obtain ⟨c, t, fr, _, rfl, _, h⟩ := st0_some hb; exact ⟨h, h⟩
 ·rw [hg] at h; cases h
 ·obtain ⟨c, t, fr, _, h, _⟩ := st0_some hb; cases h
 ·obtain ⟨c, t, fr, _, h, _⟩ := st0_some hb; cases h
 ·rw [hg] at h; cases h
 ·rw [hg] at h; cases h
theorem calls0 {B : Bx} (hm : B.P.follows .mixedOrders = true) {f : FuncId} {args : List Value} {w : World} (hH : HookOk w.heap.size B.P B.hook) (h : Cl B (.call f (args.map (abv w.heap.size))) (st0 w) fun v _ => v = .bool true) :
  Calls B.P f ⟨args⟩ w fun e w' => e = .returned (.bool true) ∧ Below w.heap.size w w' := by
 obtain ⟨v, s', ⟨n, hr⟩, rfl⟩ := h
 refine (eval_calls (fun rec R => draw_ok hm R) hH (rel0 w) (abvs_VRs _ args) (hr n (Nat.le_refl _))).mono fun e W' ⟨E', v', h1, h2, h3⟩ => ?_
 rw [h2.bool_inv] at h1
 exact ⟨h1, h3.below (rel0 w)⟩
theorem at0 {w : World} {b o : Nat} {c : Array Value} {t : TypeId} {fr : Nat × Nat} {cs : List Value} (h : w.heap[b]? = some (.cells c t fr)) (hc : ∀ i, i < cs.length → ∃ v, c[o + i]? = some v ∧ cs[i]? = some (ab w.heap.size v)) (hz : cs ≠ []) : At (st0 w) (some ⟨1000 + b, o, none⟩) cs := by
 have hg : (st0 w).hp.get (1000 + b) = some (.ro (c.toList.map (ab w.heap.size))) := by
  rw [st0_get, if_neg (by omega), show 1000 + b - 1000 = b by omega]; unfold ob0; rw [h]
 refine .inr ⟨_, _, rfl, ?_⟩
 have hcl : c.toList.length = c.size := Array.length_toList
 have hl : o + cs.length ≤ c.size := by
  have hp : 0 < cs.length := List.length_pos_iff.2 hz
  obtain ⟨v, h1, _⟩ := hc (cs.length - 1) (by omega)
  have := (Array.getElem?_eq_some_iff.1 h1).1; omega
 rw [readAt_of (.inl hg) (by rw [List.length_drop, List.length_map]; omega)]
 refine congrArg some (List.ext_getElem? fun i => ?_)
 by_cases hi : i < cs.length
 ·obtain ⟨v, h1, h2⟩ := hc i hi
  rw [List.getElem?_take_of_lt hi, List.getElem?_drop, List.getElem?_map, Array.getElem?_toList, h1, h2]; rfl
 ·rw [List.getElem?_eq_none (by rw [List.length_take, List.length_drop, List.length_map]; omega), List.getElem?_eq_none (by omega)]
end Go.Sy
namespace Go.Ev
open Go Go.RowKit
theorem stp_below {N : Nat} {E : En} {s : St} {w w' : World} (h : Rel N E s w) (b : Below w.heap.size w w') : Stp N E s w E s w' := by
 have hs := b.size
 refine ⟨.refl E, ⟨h.nx, h.lo, h.hi, h.base, Nat.le_trans h.flr hs, fun k o hk => ?_, h.flo, h.dis, h.grp, h.ro⟩, b.os, b.tape, b.output, hs, fun B hB _ => b.block B hB, fun k o hk ho => .inr ⟨k, o, hk, ho, rfl⟩⟩
 obtain ⟨h1, h2⟩ := h.ob k o hk
 refine ⟨h1, ?_⟩
 by_cases e : o = .dead
 ·subst e; trivial
 ·exact h2.keep (.refl E) h1 (b.block _ (h2.lt e))
end Go.Ev
namespace Go.Proofs.YtglilbadldocoaaGreatDoor.Dg
open Go Go.Ev Go.RowKit
def nats : List Value → Option (List Nat)
 | [] => some []
 | .int .u32 (.ofNat n) :: l => match nats l with
  | some r => cond (Nat.blt n 4294967296) (some (n :: r)) none
  | none => none
 | _ => none
def bytesN : List Value → Option (List Nat)
 | [] => some []
 | .int .u8 (.ofNat n) :: l => match bytesN l with
  | some r => cond (Nat.blt n 256) (some (n :: r)) none
  | none => none
 | _ => none
theorem nats_some : ∀ {l : List Value} {r : List Nat}, nats l = some r → l = r.map (fun n => .int .u32 (.ofNat n)) ∧ ∀ n ∈ r, n < 4294967296
 | [], r, h => by cases h; exact ⟨rfl, fun n hn => by cases hn⟩
 | v :: l, r, h => by
  unfold nats at h
  split at h
  ·rename_i e; cases e
  ·rename_i n l' e
   cases e
   split at h
   ·rename_i r' hr
    cases hb : Nat.blt n 4294967296 with
    | false => rw [hb] at h; cases h
    | true =>
     rw [hb] at h
     cases h
     obtain ⟨h1, h2⟩ := nats_some hr
     have hn : n < 4294967296 := Nat.le_of_ble_eq_true hb
     exact ⟨by rw [h1]; rfl, fun m hm => (List.mem_cons.1 hm).elim (fun e => by rw [e]; exact hn) (h2 m)⟩
   ·cases h
  ·cases h
theorem bytesN_some : ∀ {l : List Value} {r : List Nat}, bytesN l = some r → l = r.map (fun n => .int .u8 (.ofNat n)) ∧ ∀ n ∈ r, n < 256
 | [], r, h => by cases h; exact ⟨rfl, fun n hn => by cases hn⟩
 | v :: l, r, h => by
  unfold bytesN at h
  split at h
  ·rename_i e; cases e
  ·rename_i n l' e
   cases e
   split at h
   ·rename_i r' hr
    cases hb : Nat.blt n 256 with
    | false => rw [hb] at h; cases h
    | true =>
     rw [hb] at h
     cases h
     obtain ⟨h1, h2⟩ := bytesN_some hr
     have hn : n < 256 := Nat.le_of_ble_eq_true hb
     exact ⟨by rw [h1]; rfl, fun m hm => (List.mem_cons.1 hm).elim (fun e => by rw [e]; exact hn) (h2 m)⟩
   ·cases h
  ·cases h
def KV : List Value := KL.map fun n => .int .u32 (.ofNat n)
def out8 (s : W8) (t : St) : Rv := match s with
 | ⟨a, b, c, d, e, f, g, h⟩ => .ok (.agg ⟨[.int .u32 (.ofNat a), .int .u32 (.ofNat b), .int .u32 (.ofNat c), .int .u32 (.ofNat d), .int .u32 (.ofNat e), .int .u32 (.ofNat f), .int .u32 (.ofNat g), .int .u32 (.ofNat h)]⟩) t
def mixN (ws bs : Option (List Nat)) (ok : Bool) (t : St) : Rv := match ws, bs with
 | some [a, b, c, d, e, f, g, h], some l => cond ok (out8 (eb ⟨a, b, c, d, e, f, g, h⟩ l) t) .no
 | _, _ => .no
def bytesO (o : Option (List Value)) : Option (List Nat) := match o with
 | some l => bytesN l
 | none => none
def sameO (o : Option (List Value)) : Bool := match o with
 | some l => sameL l KV
 | none => false
def mixH (G : Nat) (args : List Value) (t : St) : Rv := match args with
 | [.agg ws, .slice (some ⟨b, off, none⟩) n _] => cond (Nat.beq n 64) (mixN (nats ws.toList) (bytesO (readAt t b off 64)) (sameO (readAt t G 0 64)) t) .no
 | _ => .no
theorem mixH_ok {P : Program} {N G : Nat} (hG : G < 1000) {f : FuncId}
  (hc : ∀ (w : World) (s : W8) (_ : Ok8 s) (a : Option Addr) (b off c : Nat) (B : Nat → Nat) (_ : View w a b off 64 (fun i => (B i : Int))) (_ : ∀ i, B i < 256) (_ : ∀ i, i < 64 → w.cell? ⟨G, i, none⟩ = some (.int .u32 (K i))) (_ : G < w.heap.size),
   Calls P f #[.agg (arr8 s), .slice a 64 c] w fun e w' => e = .returned (.agg (arr8 (fold1 s B))) ∧ Below w.heap.size w w')
  {args args' : List Value} {s s' : St} {v : Value} {E : En} {w : World} (h : Go.Ev.Rel N E s w) (ha : VRs E args args') (hx : mixH G args s = .ok v s') :
  Calls P f ⟨args'⟩ w fun e w' => ∃ E' v', e = .returned v' ∧ VR E' v v' ∧ Stp N E s w E' s' w' := by
 unfold mixH at hx
 split at hx
 case h_2 => cases hx
 rename_i ws b off n c
 cases hn : Nat.beq n 64 with
 | false => rw [hn] at hx; cases hx
 | true =>
 rw [hn] at hx
 have hn' := Nat.eq_of_beq_eq_true hn
 subst hn'
 have hx1 : mixN (nats ws.toList) (bytesO (readAt s b off 64)) (sameO (readAt s G 0 64)) s = .ok v s' := hx
 unfold mixN at hx1
 split at hx1
 case h_2 => cases hx1
 rename_i a8 b8 c8 d8 e8 f8 g8 h8 l hws hbs
 cases hok : sameO (readAt s G 0 64) with
 | false => rw [hok] at hx1; cases hx1
 | true =>
 rw [hok] at hx1
 cases ha with
 | cons _ p _ l' hp hl =>
 obtain ⟨q, rfl, hq⟩ := hl.one_inv
 obtain ⟨hb, c', rfl, _⟩ := hq.sl_inv
 obtain ⟨ws', rfl, hww⟩ := hp.agg_inv
 obtain ⟨n1, n2⟩ := nats_some hws
 have hok8 : Ok8 ⟨a8, b8, c8, d8, e8, f8, g8, h8⟩ := ⟨n2 _ (by simp), n2 _ (by simp), n2 _ (by simp), n2 _ (by simp), n2 _ (by simp), n2 _ (by simp), n2 _ (by simp), n2 _ (by simp)⟩
 have hws' : ws' = ws.toList := by
  refine VRs.plain_eq (p := plain 1) (fun v v' => plain_eq 1 v v') _ _ ?_ hww
  rw [n1]
  rfl
 unfold bytesO at hbs
 split at hbs
 case h_2 => cases hbs
 rename_i cells hcells
 obtain ⟨m1, m2⟩ := bytesN_some hbs
 subst m1
 have hlen : l.length = 64 := by
  have := readAt_len hcells
  rwa [List.length_map] at this
 obtain ⟨r', k1, k2⟩ := readAt_cell P h.obs hcells
 have e1 := k1.ints_eq
 subst e1
 unfold sameO at hok
 split at hok
 case h_2 => cases hok
 rename_i tab htab
 have e2 := sameL_eq hok
 subst e2
 obtain ⟨t', j1, j2⟩ := readAt_cell P h.obs htab
 have e3 : t' = KV := VRs.plain_eq (p := plain 1) (fun v v' => plain_eq 1 v v') _ _ (by kernel_rfl) j1
 subst e3
 obtain ⟨i1, i2⟩ := h.base G hG
 rw [i1, i2] at j2
 have hK : ∀ i, i < 64 → w.cell? ⟨G, i, none⟩ = some (.int .u32 (K i)) := by
  intro i hi
  have := j2 i (.int .u32 (K i)) (by
   unfold KV
   rw [List.getElem?_map, KL_get i hi, Nat.zero_add]
   rfl)
  simpa using this
 have hlt : G < w.heap.size := World.block_lt_of_cell? _ _ (hK 0 (by decide))
 have hV : View w (some ⟨E.ι b, E.sh b + off, none⟩) (E.ι b) (E.sh b + off) 64 (fun i => ((l.getD i 0 : Nat) : Int)) := by
  refine ⟨fun _ => rfl, fun i hi => ?_, fun i hi => ?_, by decide⟩
  ·have hg : l[i]? = some (l.getD i 0) := by
    rw [List.getD_eq_getElem?_getD, List.getElem?_eq_getElem (by omega)]; rfl
   exact k2 i _ (by rw [List.getElem?_map, hg]; rfl)
  ·have : l.getD i 0 < 256 := by
    rw [List.getD_eq_getElem?_getD, List.getElem?_eq_getElem (by omega)]
    exact m2 _ (List.getElem_mem _)
   omega
 have hB : ∀ i, l.getD i 0 < 256 := by
  intro i
  rcases Nat.lt_or_ge i l.length with hi | hi
  ·rw [List.getD_eq_getElem?_getD, List.getElem?_eq_getElem hi]
   exact m2 _ (List.getElem_mem _)
  ·rw [List.getD_eq_getElem?_getD, List.getElem?_eq_none hi]; decide
 have hrange : l = (List.range 64).map fun i => l.getD i 0 := by
  apply List.ext_getElem?
  intro i
  rw [List.getElem?_map]
  rcases Nat.lt_or_ge i 64 with hi | hi
  ·rw [List.getElem?_range hi, List.getElem?_eq_getElem (by omega), Option.map_some, List.getD_eq_getElem?_getD, List.getElem?_eq_getElem (by omega)]; rfl
  ·rw [List.getElem?_eq_none (by omega), List.getElem?_eq_none (by simpa using hi)]; rfl
 have hx2 : out8 (eb ⟨a8, b8, c8, d8, e8, f8, g8, h8⟩ l) s = .ok v s' := hx1
 rw [hrange, eb_eq] at hx2
 have call := hc w ⟨a8, b8, c8, d8, e8, f8, g8, h8⟩ hok8 (some ⟨E.ι b, E.sh b + off, none⟩) (E.ι b) (E.sh b + off) c' (fun i => l.getD i 0) hV hB hK hlt
 rw [show (⟨[.agg ⟨ws'⟩, .slice (some ⟨E.ι b, E.sh b + off, none⟩) 64 c']⟩ : Array Value) = #[.agg (arr8 ⟨a8, b8, c8, d8, e8, f8, g8, h8⟩), .slice (some ⟨E.ι b, E.sh b + off, none⟩) 64 c'] by rw [hws', n1]; rfl]
 refine call.mono fun e w' ⟨he, hbel⟩ => ?_
 refine ⟨E, _, he, ?_, ?_⟩
 ·generalize fold1 ⟨a8, b8, c8, d8, e8, f8, g8, h8⟩ (fun i => l.getD i 0) = z at hx2
  obtain ⟨a, b, c, d, e, f, g, h⟩ := z
  cases hx2
  exact plain_VR E 2 _ rfl
 ·have es : s' = s := by
   generalize fold1 ⟨a8, b8, c8, d8, e8, f8, g8, h8⟩ (fun i => l.getD i 0) = z at hx2
   obtain ⟨a, b, c, d, e, f, g, h⟩ := z
   cases hx2
   rfl
  subst es
  exact stp_below h hbel
def hooks (f : FuncId) : Option (List Value → St → Rv) :=
 cond (Nat.beq f 127) (some (mixH 3)) none
theorem hooks_ok {N : Nat} : HookOk N Tryz.prog hooks := by
 intro f g hf args args' s s' v E w h ha hx
 unfold hooks at hf
 cases h1 : Nat.beq f 127 with
 | true =>
  rw [h1] at hf
  cases hf
  obtain rfl := Nat.eq_of_beq_eq_true h1
  exact mixH_ok (by decide) (fun w s hs a b off c B hv hB hK hw => folded_any w s hs a b off c B hv hB hK hw) h ha hx
 | false =>
  rw [h1] at hf
  cases hf
end Go.Proofs.YtglilbadldocoaaGreatDoor.Dg
namespace Go.Ev
open Go
def roomB (n c : Nat) : Bool := cond (capSure c) (Nat.beq (capOf c) n) (Nat.ble n (capOf c) && Nat.beq (esOf c) 1)
def lookers (gr : Tr (List Nat)) (b g : Nat) : List Nat := b :: cond (Nat.beq g 0) [] (membersOf (gr.get g))
def insS (hp : Tr Ob) (nx : Nat) (gr : Tr (List Nat)) (b g n i : Nat) (cs : List Value) (u : Value) : St :=
 .mk ((killAll (lookers gr b g) hp).set (.row ((cs.take n).take i ++ u :: (cs.take n).drop i) nx) nx) (nx + 1) (gr.set [nx] nx)
def insOk (gr : Tr (List Nat)) (nx b vb n c i : Nat) (cs : List Value) (u : Value) : Bool :=
 Nat.blt i n && Nat.ble n 1099511627776 && Nat.ble n cs.length && (cs.take n).all one && one u && !Nat.beq vb b && roomB n c && Option.isNone (gr.get nx)
def insH (args : List Value) (s : St) : Rv := match args with
 | [.slice (some ⟨b, 0, none⟩) n c, .int .i64 (.ofNat i), .slice (some ⟨vb, vo, none⟩) 1 _] => match s with
  | .mk hp nx gr => match hp.get b, hp.get vb with
   | some (.row cs g), some (.row us 0) => match us[vo]? with
    | some u => cond (insOk gr nx b vb n c i cs u) (.ok (.slice (some ⟨nx, 0, none⟩) (n + 1) (least (n + 1) 1)) (insS hp nx gr b g n i cs u)) .no
    | none => .no
   | _, _ => .no
 | _ => .no
end Go.Ev
namespace Go.Proofs.YtglilbadldocoaaGreatDoor
open Go Go.Ev
theorem insH_ok {N : Nat} {args args' : List Value} {s s' : St} {v : Value} {E : En} {w : World} (h : Rel N E s w) (ha : VRs E args args') (hx : insH args s = .ok v s') :
  Calls Tryz.prog 61 ⟨args'⟩ w fun e w' => ∃ E' v', e = .returned v' ∧ VR E' v v' ∧ Stp N E s w E' s' w' := by
 unfold insH at hx
 split at hx
 case h_2 => cases hx
 rename_i b n c i vb vo vc
 obtain ⟨hp, nx, gr⟩ := s
 simp only at hx
 split at hx
 case h_2 => cases hx
 rename_i cs g us hb hvb
 split at hx
 case h_2 => cases hx
 rename_i u hu
 cases hok : insOk gr nx b vb n c i cs u with
 | false => rw [hok] at hx; cases hx
 | true =>
  rw [hok] at hx
  cases hx
  unfold insOk at hok
  simp only [Bool.and_eq_true] at hok
  obtain ⟨⟨⟨⟨⟨⟨⟨o1, o2⟩, o3⟩, o4⟩, o5⟩, o6⟩, o7⟩, o8⟩ := hok
  have o1 : i < n := Nat.le_of_ble_eq_true o1
  have o2 := Nat.le_of_ble_eq_true o2
  have o3 := Nat.le_of_ble_eq_true o3
  have o6 : vb ≠ b := fun e => by subst e; rw [Nat.beq_refl] at o6; cases o6
  have o8 := Option.isNone_iff_eq_none.1 o8
  cases ha with
  | cons _ a1 _ l1 ha1 ha =>
  cases ha with
  | cons _ a2 _ l2 ha2 ha =>
  cases ha with
  | cons _ a3 _ l3 ha3 ha =>
  cases ha
  obtain ⟨hbn, c', rfl, hc1, hc2⟩ := ha1.sl_inv
  obtain ⟨hvn, vc', rfl, _, _⟩ := ha3.sl_inv
  have e2 := ha2.int_inv
  subst e2
  obtain ⟨_, cur, ct, fr, g1, g2, g3, g4⟩ := h.ob b _ hb
  obtain ⟨_, uc, ut, ufr, u1, u2, u3, u4⟩ := h.ob vb _ hvb
  obtain ⟨u', u5, u6⟩ := u4 vo u hu
  have huf : ufr.1 = ufr.2 := by
   rcases u3 with h | ⟨_, h⟩
   ·exact h
   ·exact absurd rfl h
  have hne : E.ι vb ≠ E.ι b := fun e => (h.dis vb _ b _ hvb hb trivial (fun e => by cases e) o6 e).1 rfl
  obtain ⟨xs, x1, x2, x3⟩ : ∃ xs : List Value, xs.length = n ∧ (∀ (j : Nat) (x : Value), xs[j]? = some x → cur[E.sh b + j]? = some x) ∧ VRs E (cs.take n) xs := by
   have hbd : E.sh b + n ≤ cur.size := g4.bound o3 (by omega)
   refine ⟨(cur.toList.drop (E.sh b)).take n, by rw [List.length_take, List.length_drop, Array.length_toList]; omega, fun j x hj => ?_, .of_get ?_ fun j x hj => ?_⟩
   ·rw [List.getElem?_take] at hj
    split at hj
    ·rw [List.getElem?_drop] at hj; simpa using hj
    ·cases hj
   ·have : cur.toList.length = cur.size := Array.length_toList
    simp only [List.length_take, List.length_drop]; omega
   ·rw [List.getElem?_take] at hj
    split at hj
    ·rename_i hjn
     obtain ⟨x', k1, k2⟩ := g4 j x hj
     exact ⟨x', by rw [List.getElem?_take, if_pos hjn, List.getElem?_drop]; simpa using k1, k2⟩
    ·cases hj
  have xone : ∀ x ∈ xs, one x = true := fun x hxm => by
   obtain ⟨j, hj⟩ := List.getElem?_of_mem hxm
   have hjl : j < (cs.take n).length := by rw [x3.length]; exact (List.getElem?_eq_some_iff.1 hj).1
   obtain ⟨x', k1, k2⟩ := x3.get (List.getElem?_eq_getElem hjl)
   rw [hj] at k1; cases k1
   exact k2.one (List.all_eq_true.1 o4 _ (List.getElem_mem hjl))
  have call : Calls Tryz.prog 61 #[.slice (some ⟨E.ι b, E.sh b, none⟩) n c', .int .i64 i, .slice (some ⟨E.ι vb, E.sh vb + vo, none⟩) 1 vc'] w fun e w' => Insd w (E.ι b) (E.sh b) n i xs u' cur.size e w' := by
   by_cases hr : n + 1 ≤ c'
   ·refine ins_room w (E.ι b) (E.sh b) n i c' cur ct fr xs u' (E.ι vb) (E.sh vb + vo) vc' uc ut ufr g1 g3 x2 x1 ?_ o1 hr xone (u6.one o5) u1 u5 huf hne o2
    unfold roomB at o7
    rcases hc2 with ⟨k1, _, k3⟩ | ⟨k1, k2⟩
    ·rw [k1] at o7
     have := Nat.eq_of_beq_eq_true o7
     omega
    ·rw [k1] at o7
     have h2 : (Nat.ble n (capOf c) && Nat.beq (esOf c) 1) = true := o7
     have := Nat.eq_of_beq_eq_true (Bool.and_eq_true_iff.1 h2).2
     rw [this] at k2
     rw [g2]; omega
   ·refine ins_grow w (E.ι b) (E.sh b) n i c' cur ct fr xs u' (E.ι vb) (E.sh vb + vo) vc' cur.size uc ut ufr g1 x2 x1 o1 ?_ (by omega) xone (u6.one o5) u1 u5 o2
    unfold roomB at o7
    rcases hc2 with ⟨k1, _, k3⟩ | ⟨k1, k2⟩
    ·rw [k1] at o7
     have := Nat.eq_of_beq_eq_true o7
     omega
    ·rw [k1] at o7
     have h2 : (Nat.ble n (capOf c) && Nat.beq (esOf c) 1) = true := o7
     have := Nat.le_of_ble_eq_true (Bool.and_eq_true_iff.1 h2).1
     omega
  refine call.mono fun e w' hI => ?_
  obtain ⟨⟨A, Q, d, C, t, fr', i1, i2, i3, i4, i5, i6, i7⟩, kp, sz, os, tp, out⟩ := hI
  have hnx : nx = E.nx := h.nx
  refine ⟨E.push A Q C.size, _, i1, ?_, ?_⟩
  ·have := VR.slM (E := E.push A Q C.size) E.nx 0 (n + 1) (least (n + 1) 1) d (Nat.lt_succ_self _) (least_sure _ _) (by rw [capOf_least _ (by omega)]; exact i5) (by rw [esOf_least _ (by omega), En.push_sh, En.push_sz]; omega)
   rw [En.push_ι, En.push_sh] at this
   rw [hnx]; exact this
  ·refine stp_take h hb (i7.imp (·.1) (·.1)) List.mem_cons_self (fun hg ms hms m hm => ?_) rfl o8 trivial (fun B hB hn => kp B hB hn) sz os tp out ?_
   ·show m ∈ lookers gr b g
    unfold lookers
    have e : Nat.beq g 0 = false := by
     cases hq : Nat.beq g 0 with
     | true => exact absurd (Nat.eq_of_beq_eq_true hq) hg
     | false => rfl
    rw [e]
    have hms : gr.get g = some ms := hms
    rw [hms]
    exact List.mem_cons_of_mem _ hm
   ·refine ⟨C, t, fr', by rw [En.push_ι]; exact i2, by rw [En.push_sz], i3.up (by have := h.lo; omega), ?_⟩
    rw [En.push_sh]
    intro j x hj
    have hv : VRs E ((cs.take n).take i ++ u :: (cs.take n).drop i) (xs.take i ++ u' :: xs.drop i) := (x3.take i).append (.cons _ _ _ _ u6 (x3.drop i))
    obtain ⟨x', k1, k2⟩ := hv.get hj
    exact ⟨x', i6 j x' k1, k2.ext (En.push_ext _ _ _ _)⟩
def insK (base : FuncId → Option (List Value → St → Rv)) (f : FuncId) : Option (List Value → St → Rv) := cond (Nat.beq f 61) (some insH) (base f)
theorem insK_ok {N : Nat} {base : FuncId → Option (List Value → St → Rv)} (hb : HookOk N Tryz.prog base) : HookOk N Tryz.prog (insK base) := by
 intro f g hf args args' s s' v E w h ha hx
 unfold insK at hf
 cases h1 : Nat.beq f 61 with
 | true =>
  rw [h1] at hf
  cases hf
  obtain rfl := Nat.eq_of_beq_eq_true h1
  exact insH_ok h ha hx
 | false =>
  rw [h1] at hf
  exact hb hf h ha hx
end Go.Proofs.YtglilbadldocoaaGreatDoor
