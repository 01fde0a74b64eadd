import Derived.Test.YtcnhinnpieehoaaGreatDoorW7zz
import Derived.Test.YtcnhinnpieehoaaGreatDoorHkzz
import Derived.Test.YtcnhinnpieehoaaGreatDoorNDczz
namespace Go.Sy
open Go Go.Ev
variable {s : St} {q r : Option Addr} {c d : Nat} {M N : List Nat}
theorem one_nB {A : List Nat} : ∀ v ∈ A.map nB, one v = true := fun v hv => by
 obtain ⟨a, _, rfl⟩ := List.mem_map.1 hv; rfl
theorem mkRow_kn {s : St} {cs : List Value} : Kn s (mkRow s cs) := newRow_kn
theorem mkRow_wf {s : St} {cs : List Value} (w : Wf s) : Wf (mkRow s cs) := newRow_kn.wf w
theorem mkRow_rw {s : St} {cs : List Value} : Rw (mkRow s cs) s.nx cs s.nx := .new
theorem mkRow_sl {s : St} {cs : List Value} : Sl (mkRow s cs) (some ⟨s.nx, 0, none⟩) cs s.nx := by
 have := (mkRow_rw (s := s) (cs := cs)).sl (o := 0) (n := cs.length) (by omega)
 rwa [List.drop_zero, List.take_length] at this
theorem Gw.mk0 {s : St} {cs : List Value} {n size : Nat} (h : cs.length = n * size) : Gw (mkRow s cs) (some ⟨s.nx, 0, none⟩) n (sure n) size cs s.nx := ⟨h, .inr ⟨s.nx, 0, rfl, newRow_get, rfl, .inr rfl⟩⟩
theorem Bs.cells {A : List Nat} (h : Bs s q A) : cellsFrom s 1 A.length (.slice q A.length c) = some (A.map nB) := cells_at h (by simp) (by decide)
theorem Bs.nil_of (h : Bs s none M) : M = [] := by
 rcases h with ⟨h, _⟩ | ⟨b, o, h, _⟩
 ·simpa using h
 ·cases h
theorem Bs.kn {s' : St} (h : Bs s q M) (w : Wf s) (k : Kn s s') : Bs s' q M := At.kn h w k
theorem Kn.app {s s1 s2 : St} {γ : Nat} (h : Kn s s1) (k : Kp (fun c => c = γ) s1 s2) (hγ : s.nx ≤ γ) : Kn s s2 := Kp.new h (k.mono fun _ e => Nat.le_of_eq e.symm) hγ
theorem Kn.call {s s1 s2 : St} (h : Kn s s1) (k : Kn s1 s2) : Kn s s2 := h.trans k
theorem cap_ok {n c : Nat} (h : c = least n 1 ∨ c = sure n) (hn : n < 18446744073709551616) : capOf c = n ∧ (capSure c = true → c = sure (capOf c)) := by
 rcases h with rfl | rfl
 ·exact ⟨(cap_least hn).1, fun e => by rw [(cap_least hn).2.1] at e; cases e⟩
 ·exact ⟨cap_sure.1, fun _ => by rw [cap_sure.1]⟩
theorem At.take {cs : List Value} (h : At s q cs) {n : Nat} (hn : n ≤ cs.length) : At s q (cs.take n) := by
 rcases h with ⟨rfl, h⟩ | ⟨b, o, rfl, h⟩
 ·exact .inl ⟨by simp, h⟩
 ·obtain ⟨l, h1, h2, h3⟩ := readAt_some h
  refine .inr ⟨b, o, rfl, ?_⟩
  rw [List.length_take, Nat.min_eq_left hn, readAt_of h1 (by omega)]
  conv => rhs; rw [h3]
  rw [List.take_take, Nat.min_eq_left hn]
theorem Bs.left {A A' : List Nat} (h : Bs s q (A ++ A')) : Bs s q A := by
 have := At.take (n := A.length) h (by simp)
 rwa [List.map_append, List.take_append_of_le_length (by simp), List.take_of_length_le (by simp)] at this
def com : List Nat → List Nat → Nat
 | a :: x, b :: y => if a = b then com x y + 1 else 0
 | _, _ => 0
theorem com_drop {A B : List Nat} {i : Nat} (h1 : i < A.length) (h2 : i < B.length) : com (A.drop i) (B.drop i) = if A.getD i 0 = B.getD i 0 then com (A.drop (i + 1)) (B.drop (i + 1)) + 1 else 0 := by
 rw [List.drop_eq_getElem_cons h1, List.drop_eq_getElem_cons h2, com]
 simp only [List.getD_eq_getElem?_getD, List.getElem?_eq_getElem h1, List.getElem?_eq_getElem h2, Option.getD_some]
theorem com_end {A B : List Nat} {i : Nat} (h : A.length ≤ i ∨ B.length ≤ i) : com (A.drop i) (B.drop i) = 0 := by
 rcases h with h | h
 ·rw [List.drop_eq_nil_of_le h]; cases B.drop i <;> rfl
 ·rw [List.drop_eq_nil_of_le h]; cases A.drop i <;> rfl
theorem com_le : ∀ (A B : List Nat), com A B ≤ A.length ∧ com A B ≤ B.length
 | [], B => by cases B <;> exact ⟨Nat.zero_le _, Nat.zero_le _⟩
 | a :: A, [] => ⟨Nat.zero_le _, Nat.zero_le _⟩
 | a :: A, b :: B => by
  have := com_le A B
  rw [com]
  split <;> simp only [List.length_cons] <;> omega
theorem com_self : ∀ M : List Nat, com M M = M.length
 | [] => rfl
 | a :: M => by rw [com, if_pos rfl, com_self M]; rfl
theorem com_full : ∀ {M N : List Nat}, com M N = M.length → com M N = N.length → M = N
 | [], [], _, _ => rfl
 | [], b :: N, _, h => by cases h
 | a :: M, [], h, _ => by cases h
 | a :: M, b :: N, h, k => by
  rw [com] at h k
  split at h
  ·rename_i e; rw [if_pos e] at k; simp only [List.length_cons, Nat.add_right_cancel_iff] at h k; rw [e, com_full h k]
  ·cases h
def cmp (M N : List Nat) : Int := if com M N = M.length ∧ com M N = N.length then 0 else if com M N = M.length then -1 else if com M N = N.length then 1 else if M.getD (com M N) 0 < N.getD (com M N) 0 then -1 else 1
theorem cmp_zero {M N : List Nat} : cmp M N = 0 ↔ M = N := by
 constructor
 ·intro h
  unfold cmp at h
  split at h
  ·rename_i e; exact com_full e.1 e.2
  ·split at h
   ·cases h
   ·split at h
    ·cases h
    ·split at h <;> cases h
 ·rintro rfl; unfold cmp; rw [com_self, if_pos ⟨rfl, rfl⟩]
end Go.Sy
namespace Go.Sy
open Go Go.Ev Go.RowKit
def ab (H : Nat) (v : Value) : Value := match v with
 | .bool b => .bool b
 | .int k n => .int k n
 | .string t => .string t
 | .pointer none => .pointer none
 | .pointer (some ⟨b, o, none⟩) => if b < H then .pointer (some ⟨1000 + b, o, none⟩) else .chan (some 0)
 | .slice none n c => .slice none n c
 | .slice (some ⟨b, o, p⟩) n c => if n = 0 then .slice (some ⟨0, 0, some 0⟩) 0 0 else if b < H ∧ p = none then .slice (some ⟨1000 + b, o, none⟩) n (sure c) else .chan (some 0)
 | .nilFunc => .nilFunc
 | .nilIface => .nilIface
 | .map none => .map none
 | v => .chan (if one v = true then some 0 else none)
def abv (H : Nat) (v : Value) : Value := match v with
 | .agg cs => .agg ⟨cs.toList.map (ab H)⟩
 | v => ab H v
def En0 (H : Nat) : En := { nx := 1000 + H, ι := fun b => if b < 1000 then b else b - 1000, sh := fun _ => 0, sz := fun _ => 0 }
theorem ab_VR (H : Nat) (v : Value) : VR (En0 H) (ab H v) v := by
 have hι : ∀ b, (En0 H).ι (1000 + b) = b := fun b => by show (if 1000 + b < 1000 then 1000 + b else 1000 + b - 1000) = b; rw [if_neg (by omega)]; omega
 unfold ab
 split
 ·exact .bool _
 ·exact .int _ _
 ·exact .str _
 ·exact .pnil
 ·rename_i b o
  split
  ·rename_i h
   have := VR.ptr (E := En0 H) (1000 + b) o (by show 1000 + b < 1000 + H; omega)
   rw [hι, show (En0 H).sh (1000 + b) + o = o from Nat.zero_add o] at this; exact this
  ·exact .top _ rfl
 ·exact .snil _ _
 ·rename_i b o p n c
  split
  ·rename_i h
   subst h
   exact .slV _ 0 _ _
  ·split
   ·rename_i h
    obtain ⟨h, rfl⟩ := h
    have := VR.slS (E := En0 H) (1000 + b) o n c (by show 1000 + b < 1000 + H; omega)
    rw [hι, show (En0 H).sh (1000 + b) + o = o from Nat.zero_add o] at this; exact this
   ·exact .top _ rfl
 ·exact .fnil
 ·exact .inil
 ·exact .mnil
 ·split
  ·rename_i h; exact .top _ h
  ·exact .any _
theorem abs_VRs (H : Nat) : ∀ l : List Value, VRs (En0 H) (l.map (ab H)) l
 | [] => .nil
 | v :: l => .cons _ _ _ _ (ab_VR H v) (abs_VRs H l)
theorem abv_VR (H : Nat) (v : Value) : VR (En0 H) (abv H v) v := by
 unfold abv
 split
 ·rename_i cs; exact .agg _ _ (abs_VRs H cs.toList)
 ·exact ab_VR H v
theorem abvs_VRs (H : Nat) : ∀ l : List Value, VRs (En0 H) (l.map (abv H)) l
 | [] => .nil
 | v :: l => .cons _ _ _ _ (abv_VR H v) (abvs_VRs H l)
def ob0 (w : World) (b : Nat) : Option Ob := match w.heap[b]? with
 | some (.cells c _ _) => some (.ro (c.toList.map (ab w.heap.size)))
 | _ => none
def put0 (w : World) (t : Tr Ob) (b : Nat) : Tr Ob := match ob0 w b with
 | some o => (if b < 1000 then t.set o b else t).set o (1000 + b)
 | none => t
def hp0 (w : World) : Nat → Tr Ob
 | 0 => .nil
 | n + 1 => put0 w (hp0 w n) n
theorem hp0_get (w : World) : ∀ n k, (hp0 w n).get k = if k < 1000 then (if k < n then ob0 w k else none) else (if k - 1000 < n then ob0 w (k - 1000) else none)
 | 0, k => by show (Tr.nil : Tr Ob).get k = _; rw [Tr.get_nil]; split <;> rfl
 | n + 1, k => by
  have ih := hp0_get w n
  show (put0 w (hp0 w n) n).get k = _
  unfold put0
  cases ho : ob0 w n with
  | none =>
   simp only [ih]
   by_cases h1 : k < 1000
   ·rw [if_pos h1, if_pos h1]
    by_cases h2 : k = n
    ·subst h2; rw [if_neg (Nat.lt_irrefl _), if_pos (Nat.lt_succ_self _), ho]
    ·by_cases h3 : k < n
     ·rw [if_pos h3, if_pos (by omega)]
     ·rw [if_neg h3, if_neg (by omega)]
   ·rw [if_neg h1, if_neg h1]
    by_cases h2 : k - 1000 = n
    ·rw [if_neg (by omega), if_pos (by omega), h2, ho]
    ·by_cases h3 : k - 1000 < n
     ·rw [if_pos h3, if_pos (by omega)]
     ·rw [if_neg h3, if_neg (by omega)]
  | some o =>
   simp only [get_set']
   by_cases h0 : k = 1000 + n
   ·rw [if_pos h0, if_neg (by omega), if_pos (by omega), show k - 1000 = n by omega, ho]
   ·rw [if_neg h0]
    by_cases h1 : k < 1000
    ·rw [if_pos h1]
     by_cases h2 : k = n
     ·subst h2; rw [if_pos h1, get_set', if_pos rfl, if_pos (Nat.lt_succ_self _), ho]
     ·have e : (if n < 1000 then (hp0 w n).set o n else hp0 w n).get k = (hp0 w n).get k := by
       split
       ·rw [get_set', if_neg h2]
       ·rfl
      rw [e, ih, if_pos h1]
      by_cases h3 : k < n
      ·rw [if_pos h3, if_pos (by omega)]
      ·rw [if_neg h3, if_neg (by omega)]
    ·rw [if_neg h1]
     have e : (if n < 1000 then (hp0 w n).set o n else hp0 w n).get k = (hp0 w n).get k := by
      split
      ·rw [get_set', if_neg (by omega)]
      ·rfl
     rw [e, ih, if_neg h1]
     by_cases h3 : k - 1000 < n
     ·rw [if_pos h3, if_pos (by omega)]
     ·rw [if_neg h3, if_neg (by omega)]
def st0 (w : World) : St := .mk (hp0 w w.heap.size) (1000 + w.heap.size) .nil
theorem st0_get (w : World) (k : Nat) : (st0 w).hp.get k = if k < 1000 then ob0 w k else ob0 w (k - 1000) := by
 show (hp0 w w.heap.size).get k = _
 rw [hp0_get]
 have hn : ∀ b, ¬ b < w.heap.size → ob0 w b = none := fun b hb => by unfold ob0; rw [Array.getElem?_eq_none (by omega)]
 split
 ·split
  ·rfl
  ·rename_i h; rw [hn _ h]
 ·split
  ·rfl
  ·rename_i h; rw [hn _ h]
theorem ob0_some {w : World} {b : Nat} {o : Ob} (h : ob0 w b = some o) : ∃ c t fr, w.heap[b]? = some (.cells c t fr) ∧ o = .ro (c.toList.map (ab w.heap.size)) ∧ b < w.heap.size := by
 unfold ob0 at h
 split at h
 ·rename_i c t fr hc; cases h; exact ⟨c, t, fr, hc, rfl, (Array.getElem?_eq_some_iff.1 hc).1⟩
 ·cases h
theorem st0_some {w : World} {k : Nat} {o : Ob} (h : (st0 w).hp.get k = some o) : ∃ c t fr, w.heap[(En0 w.heap.size).ι k]? = some (.cells c t fr) ∧ o = .ro (c.toList.map (ab w.heap.size)) ∧ (En0 w.heap.size).ι k < w.heap.size ∧ k < 1000 + w.heap.size := by
 rw [st0_get] at h
 show ∃ c t fr, w.heap[if k < 1000 then k else k - 1000]? = _ ∧ _ ∧ (if k < 1000 then k else k - 1000) < _ ∧ _
 split at h
 ·rename_i hk; rw [if_pos hk]; obtain ⟨c, t, fr, h1, h2, h3⟩ := ob0_some h; exact ⟨c, t, fr, h1, h2, h3, by omega⟩
 ·rename_i hk; rw [if_neg hk]; obtain ⟨c, t, fr, h1, h2, h3⟩ := ob0_some h; exact ⟨c, t, fr, h1, h2, h3, by omega⟩
theorem rel0 (w : World) : Rel w.heap.size (En0 w.heap.size) (st0 w) w := by
 refine ⟨rfl, by show 1000 ≤ 1000 + w.heap.size; omega, Nat.le_succ _, fun b hb => ⟨if_pos hb, rfl⟩, Nat.le_refl _, fun b o hb => ?_, fun b o hb ho => ?_, fun b o b' o' hb _ ho => ?_, fun b o hb hg => ?_, fun b o hb _ _ => ?_⟩
 ·obtain ⟨c, t, fr, h1, rfl, _, h3⟩ := st0_some hb
  refine ⟨h3, c, t, fr, h1, fun i v hv => ?_⟩
  rw [List.getElem?_map, Array.getElem?_toList] at hv
  cases hc : c[i]? with
  | none => rw [hc] at hv; cases hv
  | some u => rw [hc] at hv; cases hv; exact ⟨u, by show c[0 + i]? = _; rw [Nat.zero_add]; exact hc, ab_VR _ u⟩
 ·obtain ⟨c, t, fr, h1, rfl, _⟩ := st0_some hb; exact ho.elim
 ·obtain ⟨c, t, fr, h1, rfl, _⟩ := st0_some hb; exact ho.elim
 ·obtain ⟨c, t, fr, h1, rfl, _⟩ := st0_some hb; exact absurd rfl hg
 ·obtain ⟨c, t, fr, h1, rfl, h2, _⟩ := st0_some hb; exact h2
theorem wf0 (w : World) : Wf (st0 w) := by
 have hg : ∀ g, (st0 w).gr.get g = none := fun g => Tr.get_nil
 refine ⟨fun b o hb => ?_, fun g ms m o h => ?_, fun b cs hb => hg b, fun b cs g hb => ?_, fun b cs g hb => ?_, fun g ms h => ?_, fun g ms m h => ?_, by show 0 < 1000 + w.heap.size; omega⟩
 ·obtain ⟨c, t, fr, _, rfl, _, h⟩ := st0_some hb; exact ⟨h, h⟩
 ·rw [hg] at h; cases h
 ·obtain ⟨c, t, fr, _, h, _⟩ := st0_some hb; cases h
 ·obtain ⟨c, t, fr, _, h, _⟩ := st0_some hb; cases h
 ·rw [hg] at h; cases h
 ·rw [hg] at h; cases h
theorem calls0 {B : Bx} (hm : B.P.follows .mixedOrders = true) {f : FuncId} {args : List Value} {w : World} (hH : HookOk w.heap.size B.P B.hook) (h : Cl B (.call f (args.map (abv w.heap.size))) (st0 w) fun v _ => v = .bool true) :
  Calls B.P f ⟨args⟩ w fun e w' => e = .returned (.bool true) ∧ Below w.heap.size w w' := by
 obtain ⟨v, s', ⟨n, hr⟩, rfl⟩ := h
 refine (eval_calls (fun rec R => draw_ok hm R) hH (rel0 w) (abvs_VRs _ args) (hr n (Nat.le_refl _))).mono fun e W' ⟨E', v', h1, h2, h3⟩ => ?_
 rw [h2.bool_inv] at h1
 exact ⟨h1, h3.below (rel0 w)⟩
theorem at0 {w : World} {b o : Nat} {c : Array Value} {t : TypeId} {fr : Nat × Nat} {cs : List Value} (h : w.heap[b]? = some (.cells c t fr)) (hc : ∀ i, i < cs.length → ∃ v, c[o + i]? = some v ∧ cs[i]? = some (ab w.heap.size v)) (hz : cs ≠ []) : At (st0 w) (some ⟨1000 + b, o, none⟩) cs := by
 have hg : (st0 w).hp.get (1000 + b) = some (.ro (c.toList.map (ab w.heap.size))) := by
  rw [st0_get, if_neg (by omega), show 1000 + b - 1000 = b by omega]; unfold ob0; rw [h]
 refine .inr ⟨_, _, rfl, ?_⟩
 have hcl : c.toList.length = c.size := Array.length_toList
 have hl : o + cs.length ≤ c.size := by
  have hp : 0 < cs.length := List.length_pos_iff.2 hz
  obtain ⟨v, h1, _⟩ := hc (cs.length - 1) (by omega)
  have := (Array.getElem?_eq_some_iff.1 h1).1; omega
 rw [readAt_of (.inl hg) (by rw [List.length_drop, List.length_map]; omega)]
 refine congrArg some (List.ext_getElem? fun i => ?_)
 by_cases hi : i < cs.length
 ·obtain ⟨v, h1, h2⟩ := hc i hi
  rw [List.getElem?_take_of_lt hi, List.getElem?_drop, List.getElem?_map, Array.getElem?_toList, h1, h2]; rfl
 ·rw [List.getElem?_eq_none (by rw [List.length_take, List.length_drop, List.length_map]; omega), List.getElem?_eq_none (by omega)]
end Go.Sy
namespace Go.Proofs.YtcnhinnpieehoaaGreatDoor.Nz
open Go Go.Ev Go.RowKit
def badOut (p e : Nat) (t : St) : Rv := .ok (.tuple ⟨[.agg ⟨[.bool false, .chan (some 0), .chan (some 0)]⟩, .int .i64 (.ofNat p), .int .i64 (.ofNat e)]⟩) t
def badDec (o : Option (List Nat)) (t : St) : Rv := match o with
 | none => .no
 | some l => match dec l with
  | .bad p e => fN p fun p => fN e fun e => badOut p e t
  | .ok _ => .no
def badH (args : List Value) (t : St) : Rv := match args with
 | [.slice none n _] => cond (Nat.beq n 0) (badDec (some []) t) .no
 | [.slice (some ⟨b, off, none⟩) n c] => cond (Nat.ble n (capOf c) && Nat.ble n 1048577) (badDec (Dg.bytesO (readAt t b off n)) t) .no
 | _ => .no
theorem own_cells {w : World} {lo hi : Nat} {vb vi : Value} (h : Own w lo hi (.mk false [] []) vb vi) : one vb = true ∧ one vi = true := by
 cases h with
 | str hb _ _ _ =>
  refine ⟨?_, rfl⟩
  rcases hb.2 with ⟨rfl, _⟩ | ⟨g, cap, cur, rfl, _⟩ <;> rfl
theorem badDec_call {N : Nat} {E : En} {s s' : St} {w : World} {v : Value} {l : List Nat} {a : Option Addr} {b off c : Nat} (h : Ev.Rel N E s w) (hv : Vw w a b off l) (hc : l.length ≤ c) (hl : l.length ≤ 140737488355328) (hx : badDec (some l) s = .ok v s') :
  Calls Tryz.prog 43 ⟨[.slice a l.length c]⟩ w fun e w' => ∃ E' v', e = .returned v' ∧ VR E' v v' ∧ Stp N E s w E' s' w' := by
 unfold badDec at hx
 simp only at hx
 split at hx
 case h_2 => cases hx
 rename_i p e hd
 rw [fN_eq, fN_eq] at hx
 unfold badOut at hx
 cases hx
 refine (decode_any w a b off c l hv hc hl).mono fun r w' hr => ?_
 obtain ⟨vb, vi, rfl, hown, hbel⟩ := hr
 have hX : decX l = .mk false [] [] := by unfold decX; rw [hd]
 have hP : decP l = p := by unfold decP; rw [hd]
 have hE : decE l = e := by unfold decE; rw [hd]
 rw [hX] at hown
 obtain ⟨o1, o2⟩ := own_cells hown
 refine ⟨E, _, rfl, ?_, stp_below h hbel⟩
 rw [hX, hP, hE]
 exact .tup _ _ (.cons _ _ _ _ (.agg _ _ (.cons _ _ _ _ (.bool false) (.cons _ _ _ _ (.top _ o1) (.cons _ _ _ _ (.top _ o2) .nil)))) (.cons _ _ _ _ (.int .i64 _) (.cons _ _ _ _ (.int .i64 _) .nil)))
theorem badH_ok {N : Nat} {args args' : List Value} {s s' : St} {v : Value} {E : En} {w : World} (h : Ev.Rel N E s w) (ha : VRs E args args') (hx : badH args s = .ok v s') :
  Calls Tryz.prog 43 ⟨args'⟩ w fun e w' => ∃ E' v', e = .returned v' ∧ VR E' v v' ∧ Stp N E s w E' s' w' := by
 unfold badH at hx
 split at hx
 ·rename_i n c
  obtain ⟨q, rfl, hq⟩ := ha.one_inv
  obtain rfl := plain_eq 1 _ _ rfl hq
  cases hn : Nat.beq n 0 with
  | false => rw [hn] at hx; cases hx
  | true =>
   rw [hn] at hx
   obtain rfl := Nat.eq_of_beq_eq_true hn
   exact badDec_call (l := []) (b := 0) (off := 0) h ⟨fun h0 => absurd h0 (by simp), fun i hi => absurd hi (by simp), fun i hi => absurd hi (by simp), by simp⟩ (by simp) (by simp) hx
 ·rename_i b off n c
  obtain ⟨q, rfl, hq⟩ := ha.one_inv
  obtain ⟨hb, c', rfl, hcap, _⟩ := hq.sl_inv
  cases hn : (Nat.ble n (capOf c) && Nat.ble n 1048577) with
  | false => rw [hn] at hx; cases hx
  | true =>
   rw [hn] at hx
   obtain ⟨h1, h2⟩ := Bool.and_eq_true_iff.1 hn
   have h1' := Nat.le_of_ble_eq_true h1
   have h2' := Nat.le_of_ble_eq_true h2
   have hx1 : badDec (Dg.bytesO (readAt s b off n)) s = .ok v s' := hx
   cases hbs : Dg.bytesO (readAt s b off n) with
   | none => rw [hbs] at hx1; cases hx1
   | some l =>
    rw [hbs] at hx1
    unfold Dg.bytesO at hbs
    split at hbs
    case h_2 => cases hbs
    rename_i cells hcells
    obtain ⟨m1, m2⟩ := Dg.bytesN_some hbs
    subst m1
    have hlen : l.length = n := by
     have := readAt_len hcells
     rwa [List.length_map] at this
    subst hlen
    obtain ⟨r', k1, k2⟩ := readAt_cell Tryz.prog h.obs hcells
    have e1 := k1.ints_eq
    subst e1
    have hg : ∀ i, i < l.length → l[i]? = some (gd l i) := by
     intro i hi
     unfold gd
     rw [List.getD_eq_getElem?_getD, List.getElem?_eq_getElem hi]; rfl
    have hV : Vw w (some ⟨E.ι b, E.sh b + off, none⟩) (E.ι b) (E.sh b + off) l := by
     refine ⟨fun _ => rfl, fun i hi => ?_, fun i hi => ?_, by omega⟩
     ·exact k2 i _ (by rw [List.getElem?_map, hg i hi]; rfl)
     ·have : gd l i < 256 := m2 _ (List.mem_of_getElem? (hg i hi))
      omega
    exact badDec_call h hV (by omega) (by omega) hx1
 ·cases hx
def hooksX (f : FuncId) : Option (List Value → St → Rv) := cond (Nat.beq f 43) (some badH) (Dg.hooks f)
theorem hooksX_ok {N : Nat} : HookOk N Tryz.prog hooksX := by
 intro f g hf args args' s s' v E w h ha hx
 unfold hooksX at hf
 cases h1 : Nat.beq f 43 with
 | true =>
  rw [h1] at hf
  cases hf
  obtain rfl := Nat.eq_of_beq_eq_true h1
  exact badH_ok h ha hx
 | false =>
  rw [h1] at hf
  exact Dg.hooks_ok hf h ha hx
end Go.Proofs.YtcnhinnpieehoaaGreatDoor.Nz
namespace Go.Sy
open Go Go.Ev
abbrev Ety := List Nat × List Nat
def key (E : List Ety) (i : Nat) : List Nat := (E.getD i ([], [])).1
def val (E : List Ety) (i : Nat) : List Nat := (E.getD i ([], [])).2
def BsV (s : St) (v : Value) (A : List Nat) : Prop := ∃ q c, v = .slice q A.length c ∧ Bs s q A ∧ A.length < 2 ^ 60
theorem BsV.kn {s s' : St} {v : Value} {A : List Nat} (h : BsV s v A) (w : Wf s) (k : Kn s s') : BsV s' v A := let ⟨q, c, h1, h2, h3⟩ := h; ⟨q, c, h1, h2.kn w k, h3⟩
def Ent (s : St) : List Value → List Ety → Prop
 | [], [] => True
 | k :: v :: cs, e :: E => BsV s k e.1 ∧ BsV s v e.2 ∧ Ent s cs E
 | _, _ => False
theorem Ent.length {s : St} : ∀ {cs : List Value} {E : List Ety}, Ent s cs E → cs.length = E.length * 2
 | [], [], _ => rfl
 | [], _ :: _, h => h.elim
 | [_], [], h => h.elim
 | [_], _ :: _, h => h.elim
 | _ :: _ :: _, [], h => h.elim
 | _ :: _ :: cs, _ :: E, h => by have := Ent.length h.2.2; simp only [List.length_cons]; omega
theorem Ent.get {s : St} : ∀ {cs : List Value} {E : List Ety}, Ent s cs E → ∀ {i : Nat}, i < E.length → ∃ k v, cs[i * 2]? = some k ∧ cs[i * 2 + 1]? = some v ∧ BsV s k (key E i) ∧ BsV s v (val E i)
 | [], [], _, i, hi => by simp at hi
 | [], _ :: _, h, _, _ => h.elim
 | [_], [], h, _, _ => h.elim
 | [_], _ :: _, h, _, _ => h.elim
 | _ :: _ :: _, [], h, _, _ => h.elim
 | k :: v :: cs, e :: E, h, 0, _ => ⟨k, v, rfl, rfl, h.1, h.2.1⟩
 | k :: v :: cs, e :: E, h, i + 1, hi => by
  obtain ⟨k', v', h1, h2, h3, h4⟩ := Ent.get h.2.2 (i := i) (by simpa using hi)
  exact ⟨k', v', by rw [show (i + 1) * 2 = i * 2 + 1 + 1 by omega]; exact h1, by rw [show (i + 1) * 2 + 1 = i * 2 + 1 + 1 + 1 by omega]; exact h2, h3, h4⟩
theorem Ent.kn {s s' : St} (w : Wf s) (k : Kn s s') : ∀ {cs : List Value} {E : List Ety}, Ent s cs E → Ent s' cs E
 | [], [], _ => trivial
 | [], _ :: _, h => h.elim
 | [_], [], h => h.elim
 | [_], _ :: _, h => h.elim
 | _ :: _ :: _, [], h => h.elim
 | _ :: _ :: _cs, _ :: _E, h => ⟨h.1.kn w k, h.2.1.kn w k, Ent.kn w k h.2.2⟩
theorem Ent.app {s : St} {k v : Value} {e : Ety} : ∀ {cs : List Value} {E : List Ety}, Ent s cs E → BsV s k e.1 → BsV s v e.2 → Ent s (cs ++ [k, v]) (E ++ [e])
 | [], [], _, h1, h2 => ⟨h1, h2, trivial⟩
 | [], _ :: _, h, _, _ => h.elim
 | [_], [], h, _, _ => h.elim
 | [_], _ :: _, h, _, _ => h.elim
 | _ :: _ :: _, [], h, _, _ => h.elim
 | _ :: _ :: _cs, _ :: _E, h, h1, h2 => ⟨h.1, h.2.1, Ent.app h.2.2 h1 h2⟩
theorem Ent.one {s : St} : ∀ {cs : List Value} {E : List Ety}, Ent s cs E → ∀ v ∈ cs, one v = true
 | [], [], _, v, hv => by simp at hv
 | [], _ :: _, h, _, _ => h.elim
 | [_], [], h, _, _ => h.elim
 | [_], _ :: _, h, _, _ => h.elim
 | _ :: _ :: _, [], h, _, _ => h.elim
 | k :: v :: cs, e :: E, h, x, hx => by
  rcases List.mem_cons.1 hx with rfl | hx
  ·obtain ⟨q, c, rfl, _⟩ := h.1; rfl
  ·rcases List.mem_cons.1 hx with rfl | hx
   ·obtain ⟨q, c, rfl, _⟩ := h.2.1; rfl
   ·exact Ent.one h.2.2 x hx
theorem Ent.ld {s : St} {q : Option Addr} {cs : List Value} {E : List Ety} (h : Ent s cs E) (ha : At s q cs) {i : Nat} (hi : i < E.length) :
  good q ∧ ∃ q1 c1 q2 c2, ldq s (qadd (qadd q (i * 2)) 0) = some (.slice q1 (key E i).length c1) ∧ ldq s (qadd (qadd q (i * 2)) 1) = some (.slice q2 (val E i).length c2) ∧ Bs s q1 (key E i) ∧ Bs s q2 (val E i) ∧ (key E i).length < 2 ^ 60 ∧ (val E i).length < 2 ^ 60 := by
 have hl := h.length
 obtain ⟨k, v, h1, h2, ⟨q1, c1, rfl, h3, h5⟩, ⟨q2, c2, rfl, h4, h6⟩⟩ := h.get hi
 refine ⟨At.good ha (i := i * 2) (by omega), q1, c1, q2, c2, ?_, ?_, h3, h4, h5, h6⟩
 ·rw [qadd_qadd, At.ld ha (i := i * 2 + 0) (by omega), ← List.getElem?_eq_getElem]; exact h1
 ·rw [qadd_qadd, At.ld ha (i := i * 2 + 1) (by omega), ← List.getElem?_eq_getElem]; exact h2
end Go.Sy
namespace Go.Sy
open Go Go.Ev
theorem appc_ok {P : Program} {s : St} {e size : Nat} (hs : sizeOfT P e = some size) (hz : zeroFit P e size = true) {b n cap γ : Nat} {l : List Value} (hr : Rw s b l γ) {y : Value} {k : Nat} {new : List Value}
  (hk : lenOfV y = some k) (hy : cellsFrom s size k y = some new) (hl : new.length = k * size) (h1 : ∀ v ∈ new, one v = true) (hle : roomFor P e (n + k) = true) (hc : n + k ≤ cap) (hll : (n + k) * size ≤ l.length) :
  ∃ s', appendV P s e (.slice (some ⟨b, 0, none⟩) n (sure cap)) y = .ok (.val (.slice (some ⟨b, 0, none⟩) (n + k) (sure cap))) s' ∧ Rw s' b (lov l (n * size) new) γ ∧ s'.nx = s.nx ∧ Kp (fun x => x = γ) s s' := by
 obtain ⟨g, hr1, rfl⟩ := hr
 rw [Nat.add_mul] at hll
 obtain ⟨s', a1, a2, a3, a4⟩ := writeAt_ok hr1 (vs := new) (off := n * size) (by omega) h1
 refine ⟨s', ?_, ⟨g, a2, rfl⟩, a3, a4⟩
 have e0 : appendV P s e (.slice (some ⟨b, 0, none⟩) n (sure cap)) y = appendN P s e size (some ⟨b, 0, none⟩) n (sure cap) (n + k) new := by
  unfold appendV
  simp only [hs, hk, hy, fN_eq]
  rfl
 rw [e0]
 unfold appendN
 rw [hle, hz]
 show appendB s size b 0 n (sure cap) (n + k) new = _
 unfold appendB
 rw [cap_sure.1, show Nat.ble (n + k) cap = true from Nat.ble_eq_true_of_le hc]
 show (match writeAt s b (0 + n * size) new with | some s => Re.ok (.val (.slice (some ⟨b, 0, none⟩) (n + k) (sure cap))) s | none => .no) = _
 rw [Nat.zero_add, a1]
section
variable {X : Fx} {env : Env} {df : List Deferred} {s : St} {Q : Post} {all os : List Oper} {d : Option Nat} {ty : TypeId} {pos : String} {af : Array Edge} {g : Option (Nat × Bool)}
theorem Xv.appc {x y : Operand} {t u e n0 nu size : Nat} {z0 zu : Option (List Value)} {z : List Value} {t0 t1 tu : Nat} {ke ku : Sh} (ht : tk X.B.T t = some ⟨t0, n0, .sl e, z0⟩) (he : tk X.B.T e = some ⟨t1, size, ke, some z⟩) (hu : tk X.B.T u = some ⟨tu, nu, ku, zu⟩) (hn : notI ku = true)
  {b n cap : Nat} {v : Value} {γ k : Nat} {l new : List Value} (hx : ev env x = some (.slice (some ⟨b, 0, none⟩) n (sure cap))) (hy : ev env y = some v) (hr : Rw s b l γ) (hk : lenOfV v = some k) (hv : cellsFrom s size k v = some new) (hl : new.length = k * size) (h1 : ∀ v ∈ new, one v = true) {y0 : Nat} (hV : lkV X.B.V e = some y0) (hro : (5 * (n + k) + 3072) * y0 ≤ 1125899906842624) (hb : n + k ≤ 4611686018427387904) (hc : n + k ≤ cap) (hll : (n + k) * size ≤ l.length) :
  ∃ s', Xv X (.call ⟨.builtin .append, #[x, y], #[t, u]⟩) env s (.slice (some ⟨b, 0, none⟩) (n + k) (sure cap)) s' ∧ Rw s' b (lov l (n * size) new) γ ∧ s'.nx = s.nx ∧ Kp (fun x => x = γ) s s' := by
 obtain ⟨s', a, b1, c1, d1⟩ := appc_ok (P := X.P) (X.B.sz he) (X.B.zr he).2.2.2 hr hk hv hl h1 (X.B.room hV hro hb) hc hll
 refine ⟨s', fun tm hf => ?_, b1, c1, d1⟩
 show xAppend X.P [t, u] (opds tm [x, y]) s = _
 rw [evs_opds hf (xs := [x, y]) (vs := [.slice (some ⟨b, 0, none⟩) n (sure cap), v]) (by unfold evs evs evs; rw [hx, hy])]
 obtain ⟨td, hu1, hu2⟩ := und_notI (X.B.un hu) hn
 have ht1 : X.P.underlying t = some (.slice e) := X.B.un ht
 unfold xAppend
 simp only [ht1, show X.P.underlying u = some td from hu1]
 cases td <;> first | exact a | exact absurd rfl (hu2 _)
theorem Wo.appc {x y : Operand} {t u e n0 nu size : Nat} {z0 zu : Option (List Value)} {z : List Value} {t0 t1 tu : Nat} {ke ku : Sh} (hgd : wantsE all env g = some true) (ht : tk X.B.T t = some ⟨t0, n0, .sl e, z0⟩) (he : tk X.B.T e = some ⟨t1, size, ke, some z⟩) (hu : tk X.B.T u = some ⟨tu, nu, ku, zu⟩) (hn : notI ku = true) (hd : dOk X d = true)
  {b n cap : Nat} {v : Value} {γ k : Nat} {l new : List Value} (hx : ev env x = some (.slice (some ⟨b, 0, none⟩) n (sure cap))) (hy : ev env y = some v) (hr : Rw s b l γ) (hk : lenOfV v = some k) (hv : cellsFrom s size k v = some new) (hl : new.length = k * size) (h1 : ∀ v ∈ new, one v = true) {y0 : Nat} (hV : lkV X.B.V e = some y0) (hro : (5 * (n + k) + 3072) * y0 ≤ 1125899906842624) (hb : n + k ≤ 4611686018427387904) (hc : n + k ≤ cap) (hll : (n + k) * size ≤ l.length)
  (K : ∀ s', Rw s' b (lov l (n * size) new) γ → s'.nx = s.nx → Kp (fun x => x = γ) s s' → Wo X all os (up d (.slice (some ⟨b, 0, none⟩) (n + k) (sure cap)) env) df s' Q) : Wo X all (⟨d, .call ⟨.builtin .append, #[x, y], #[t, u]⟩, ty, pos, af, g⟩ :: os) env df s Q := by
 obtain ⟨s', a, b1, c1, d1⟩ := Xv.appc (X := X) (env := env) ht he hu hn hx hy hr hk hv hl h1 hV hro hb hc hll
 exact Wo.val hgd a hd (K s' b1 c1 d1)
theorem Wd.appc {i m : Nat} {L : List Sp} {past : Past} {x y : Operand} {t u e n0 nu size : Nat} {z0 zu : Option (List Value)} {z : List Value} {t0 t1 tu : Nat} {ke ku : Sh} (hgd : wantsE all env g = some true) (ht : tk X.B.T t = some ⟨t0, n0, .sl e, z0⟩) (he : tk X.B.T e = some ⟨t1, size, ke, some z⟩) (hu : tk X.B.T u = some ⟨tu, nu, ku, zu⟩) (hn : notI ku = true) (hd : dOk X d = true)
  {b n cap : Nat} {v : Value} {γ k : Nat} {l new : List Value} (hx : ev env x = some (.slice (some ⟨b, 0, none⟩) n (sure cap))) (hy : ev env y = some v) (hr : Rw s b l γ) (hk : lenOfV v = some k) (hv : cellsFrom s size k v = some new) (hl : new.length = k * size) (h1 : ∀ v ∈ new, one v = true) {y0 : Nat} (hV : lkV X.B.V e = some y0) (hro : (5 * (n + k) + 3072) * y0 ≤ 1125899906842624) (hb : n + k ≤ 4611686018427387904) (hc : n + k ≤ cap) (hll : (n + k) * size ≤ l.length)
  (K : ∀ s', Rw s' b (lov l (n * size) new) γ → s'.nx = s.nx → Kp (fun x => x = γ) s s' → Wd X all L ((some i, s') :: past) (up d (.slice (some ⟨b, 0, none⟩) (n + k) (sure cap)) env) df s' Q) : Wd X all (.mk .acts i ⟨d, .call ⟨.builtin .append, #[x, y], #[t, u]⟩, ty, pos, af, g⟩ m :: L) past env df s Q := by
 obtain ⟨s', a, b1, c1, d1⟩ := Xv.appc (X := X) (env := env) ht he hu hn hx hy hr hk hv hl h1 hV hro hb hc hll
 exact Wd.act hgd a hd (Nat.le_of_eq c1.symm) (K s' b1 c1 d1)
end
section
variable {X : Fx} {env : Env} {s : St}
theorem Xv.asB {t t0 n e : Nat} {z : Option (List Value)} {t1 n1 : Nat} {z1 : Option (List Value)} {x : Operand} {b o l c γ : Nat} {cs : List Value} (ht : tk X.B.T t = some ⟨t0, n, .sl e, z⟩) (he : tk X.B.T e = some ⟨t1, n1, .it .u8, z1⟩) (hx : ev env x = some (.slice (some ⟨b, o, none⟩) l c)) (hr : Rw s b cs γ) : Xv X (.convert t t x) env s (.slice (some ⟨b, o, none⟩) l c) s := fun tm hf => by
 obtain ⟨g, h1, _⟩ := hr
 show xConv X.P t t (opd tm x) s = _
 rw [ev_opd hf hx]
 have hu : X.P.underlying t = some (.slice e) := X.B.un ht
 have hv : X.P.underlying e = some (.int .u8) := X.B.un he
 unfold xConv
 simp only [hu, hv, isU8, Nat.beq_refl, Bool.and_true, cond]
 obtain ⟨hp, nx, gr⟩ := s
 have h1' : hp.get b = some (.row cs g) := h1
 unfold asBytes
 simp only [h1']
end
structure Own (s : St) (v : Value) (A X : List Nat) (γ : Nat) : Prop where
 ex : ∃ b c, v = .slice (some ⟨b, 0, none⟩) A.length c ∧ Rw s b ((A ++ X).map nB) γ ∧ capOf c = A.length + X.length ∧ (capSure c = true → c = sure (capOf c))
 lt : A.length < 2 ^ 60
theorem Own.bs {s : St} {v : Value} {A X : List Nat} {γ : Nat} (h : Own s v A X γ) : BsV s v A := by
 obtain ⟨b, c, h1, h2, _, _⟩ := h.ex
 refine ⟨_, c, h1, ?_, h.lt⟩
 have := (h2.sl (o := 0) (n := A.length) (by simp)).at
 rwa [List.drop_zero, List.map_append, List.take_append_of_le_length (by simp), List.take_of_length_le (by simp)] at this
theorem Own.kp {C : Nat → Prop} {s s' : St} {v : Value} {A X : List Nat} {γ : Nat} (h : Own s v A X γ) (w : Wf s) (k : Kp C s s') (hc : ¬ C γ) : Own s' v A X γ :=
 ⟨let ⟨b, c, h1, h2, h3, h4⟩ := h.ex; ⟨b, c, h1, h2.kp w k hc, h3, h4⟩, h.lt⟩
theorem Own.ltn {s : St} {v : Value} {A X : List Nat} {γ : Nat} (h : Own s v A X γ) (w : Wf s) : γ < s.nx := let ⟨_, _, _, h2, _, _⟩ := h.ex; (h2.lt w).2
end Go.Sy
