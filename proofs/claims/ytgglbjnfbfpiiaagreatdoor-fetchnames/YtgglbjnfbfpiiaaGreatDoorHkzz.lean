import Derived.Test.YtgglbjnfbfpiiaaGreatDoorG4zz
import Derived.Test.YtgglbjnfbfpiiaaGreatDoorQFoldzz
import Derived.Test.YtgglbjnfbfpiiaaGreatDoorQRMixzz
import Derived.Test.YtgglbjnfbfpiiaaGreatDoorQEbzz
/-
  The evaluator: a block taken into the words, at a stroke.
-/
namespace Go.Ev
open Go Go.RowKit
/-- New memory alone. -/
theorem stp_below {N : Nat} {E : En} {s : St} {w w' : World} (h : Rel N E s w) (b : Below w.heap.size w w') : Stp N E s w E s w' := by
  have hs := b.size
  refine ⟨.refl E, ⟨h.nx, h.lo, h.hi, h.base, Nat.le_trans h.flr hs, fun k o hk => ?_, h.flo, h.dis, h.grp, h.ro⟩, b.os, b.tape, b.output, hs, fun B hB _ => b.block B hB, fun k o hk ho => .inr ⟨k, o, hk, ho, rfl⟩⟩
  obtain ⟨h1, h2⟩ := h.ob k o hk
  refine ⟨h1, ?_⟩
  by_cases e : o = .dead
  · subst e; trivial
  · exact h2.keep (.refl E) h1 (b.block _ (h2.lt e))
end Go.Ev
namespace Go.Proofs.YtgglbjnfbfpiiaaGreatDoor.Dg
open Go Go.Ev Go.RowKit
/-- Words, each below 2^32. -/
def nats : List Value → Option (List Nat)
  | [] => some []
  | .int .u32 (.ofNat n) :: l => match nats l with
    | some r => cond (Nat.blt n 4294967296) (some (n :: r)) none
    | none => none
  | _ => none
def bytesN : List Value → Option (List Nat)
  | [] => some []
  | .int .u8 (.ofNat n) :: l => match bytesN l with
    | some r => cond (Nat.blt n 256) (some (n :: r)) none
    | none => none
  | _ => none
theorem nats_some : ∀ {l : List Value} {r : List Nat}, nats l = some r → l = r.map (fun n => .int .u32 (.ofNat n)) ∧ ∀ n ∈ r, n < 4294967296
  | [], r, h => by cases h; exact ⟨rfl, fun n hn => by cases hn⟩
  | v :: l, r, h => by
    unfold nats at h
    split at h
    · rename_i e; cases e
    · rename_i n l' e
      cases e
      split at h
      · rename_i r' hr
        cases hb : Nat.blt n 4294967296 with
        | false => rw [hb] at h; cases h
        | true =>
          rw [hb] at h
          cases h
          obtain ⟨h1, h2⟩ := nats_some hr
          have hn : n < 4294967296 := Nat.le_of_ble_eq_true hb
          exact ⟨by rw [h1]; rfl, fun m hm => (List.mem_cons.1 hm).elim (fun e => by rw [e]; exact hn) (h2 m)⟩
      · cases h
    · cases h
theorem bytesN_some : ∀ {l : List Value} {r : List Nat}, bytesN l = some r → l = r.map (fun n => .int .u8 (.ofNat n)) ∧ ∀ n ∈ r, n < 256
  | [], r, h => by cases h; exact ⟨rfl, fun n hn => by cases hn⟩
  | v :: l, r, h => by
    unfold bytesN at h
    split at h
    · rename_i e; cases e
    · rename_i n l' e
      cases e
      split at h
      · rename_i r' hr
        cases hb : Nat.blt n 256 with
        | false => rw [hb] at h; cases h
        | true =>
          rw [hb] at h
          cases h
          obtain ⟨h1, h2⟩ := bytesN_some hr
          have hn : n < 256 := Nat.le_of_ble_eq_true hb
          exact ⟨by rw [h1]; rfl, fun m hm => (List.mem_cons.1 hm).elim (fun e => by rw [e]; exact hn) (h2 m)⟩
      · cases h
    · cases h
def KV : List Value := KL.map fun n => .int .u32 (.ofNat n)
def out8 (s : W8) (t : St) : Rv := match s with
  | ⟨a, b, c, d, e, f, g, h⟩ => .ok (.agg ⟨[.int .u32 (.ofNat a), .int .u32 (.ofNat b), .int .u32 (.ofNat c), .int .u32 (.ofNat d), .int .u32 (.ofNat e), .int .u32 (.ofNat f), .int .u32 (.ofNat g), .int .u32 (.ofNat h)]⟩) t
def mixN (ws bs : Option (List Nat)) (ok : Bool) (t : St) : Rv := match ws, bs with
  | some [a, b, c, d, e, f, g, h], some l => cond ok (out8 (eb ⟨a, b, c, d, e, f, g, h⟩ l) t) .no
  | _, _ => .no
def bytesO (o : Option (List Value)) : Option (List Nat) := match o with
  | some l => bytesN l
  | none => none
def sameO (o : Option (List Value)) : Bool := match o with
  | some l => sameL l KV
  | none => false
/-- A block's words at a stroke; the table lies in block G. -/
def mixH (G : Nat) (args : List Value) (t : St) : Rv := match args with
  | [.agg ws, .slice (some ⟨b, off, none⟩) n _] => cond (Nat.beq n 64) (mixN (nats ws.toList) (bytesO (readAt t b off 64)) (sameO (readAt t G 0 64)) t) .no
  | _ => .no
theorem mixH_ok {P : Program} {N G : Nat} (hG : G < 1000) {f : FuncId}
    (hc : ∀ (w : World) (s : W8) (_ : Ok8 s) (a : Option Addr) (b off c : Nat) (B : Nat → Nat) (_ : View w a b off 64 (fun i => (B i : Int))) (_ : ∀ i, B i < 256) (_ : ∀ i, i < 64 → w.cell? ⟨G, i, none⟩ = some (.int .u32 (K i))) (_ : G < w.heap.size),
      Calls P f #[.agg (arr8 s), .slice a 64 c] w fun e w' => e = .returned (.agg (arr8 (fold1 s B))) ∧ Below w.heap.size w w')
    {args args' : List Value} {s s' : St} {v : Value} {E : En} {w : World} (h : Go.Ev.Rel N E s w) (ha : VRs E args args') (hx : mixH G args s = .ok v s') :
    Calls P f ⟨args'⟩ w fun e w' => ∃ E' v', e = .returned v' ∧ VR E' v v' ∧ Stp N E s w E' s' w' := by
  unfold mixH at hx
  split at hx
  case h_2 => cases hx
  rename_i ws b off n c
  cases hn : Nat.beq n 64 with
  | false => rw [hn] at hx; cases hx
  | true =>
  rw [hn] at hx
  have hn' := Nat.eq_of_beq_eq_true hn
  subst hn'
  have hx1 : mixN (nats ws.toList) (bytesO (readAt s b off 64)) (sameO (readAt s G 0 64)) s = .ok v s' := hx
  unfold mixN at hx1
  split at hx1
  case h_2 => cases hx1
  rename_i a8 b8 c8 d8 e8 f8 g8 h8 l hws hbs
  cases hok : sameO (readAt s G 0 64) with
  | false => rw [hok] at hx1; cases hx1
  | true =>
  rw [hok] at hx1
  cases ha with
  | cons _ p _ l' hp hl =>
  obtain ⟨q, rfl, hq⟩ := hl.one_inv
  obtain ⟨hb, c', rfl, _⟩ := hq.sl_inv
  obtain ⟨ws', rfl, hww⟩ := hp.agg_inv
  obtain ⟨n1, n2⟩ := nats_some hws
  have hok8 : Ok8 ⟨a8, b8, c8, d8, e8, f8, g8, h8⟩ := ⟨n2 _ (by simp), n2 _ (by simp), n2 _ (by simp), n2 _ (by simp), n2 _ (by simp), n2 _ (by simp), n2 _ (by simp), n2 _ (by simp)⟩
  have hws' : ws' = ws.toList := by
    refine VRs.plain_eq (p := plain 1) (fun v v' => plain_eq 1 v v') _ _ ?_ hww
    rw [n1]
    rfl
  -- the block
  unfold bytesO at hbs
  split at hbs
  case h_2 => cases hbs
  rename_i cells hcells
  obtain ⟨m1, m2⟩ := bytesN_some hbs
  subst m1
  have hlen : l.length = 64 := by
    have := readAt_len hcells
    rwa [List.length_map] at this
  obtain ⟨r', k1, k2⟩ := readAt_cell P h.obs hcells
  have e1 := k1.ints_eq
  subst e1
  -- the table
  unfold sameO at hok
  split at hok
  case h_2 => cases hok
  rename_i tab htab
  have e2 := sameL_eq hok
  subst e2
  obtain ⟨t', j1, j2⟩ := readAt_cell P h.obs htab
  have e3 : t' = KV := VRs.plain_eq (p := plain 1) (fun v v' => plain_eq 1 v v') _ _ (by kernel_rfl) j1
  subst e3
  obtain ⟨i1, i2⟩ := h.base G hG
  rw [i1, i2] at j2
  have hK : ∀ i, i < 64 → w.cell? ⟨G, i, none⟩ = some (.int .u32 (K i)) := by
    intro i hi
    have := j2 i (.int .u32 (K i)) (by
      unfold KV
      rw [List.getElem?_map, KL_get i hi, Nat.zero_add]
      rfl)
    simpa using this
  have hlt : G < w.heap.size := World.block_lt_of_cell? _ _ (hK 0 (by decide))
  have hV : View w (some ⟨E.ι b, E.sh b + off, none⟩) (E.ι b) (E.sh b + off) 64 (fun i => ((l.getD i 0 : Nat) : Int)) := by
    refine ⟨fun _ => rfl, fun i hi => ?_, fun i hi => ?_, by decide⟩
    · have hg : l[i]? = some (l.getD i 0) := by
        rw [List.getD_eq_getElem?_getD, List.getElem?_eq_getElem (by omega)]; rfl
      exact k2 i _ (by rw [List.getElem?_map, hg]; rfl)
    · have : l.getD i 0 < 256 := by
        rw [List.getD_eq_getElem?_getD, List.getElem?_eq_getElem (by omega)]
        exact m2 _ (List.getElem_mem _)
      omega
  have hB : ∀ i, l.getD i 0 < 256 := by
    intro i
    rcases Nat.lt_or_ge i l.length with hi | hi
    · rw [List.getD_eq_getElem?_getD, List.getElem?_eq_getElem hi]
      exact m2 _ (List.getElem_mem _)
    · rw [List.getD_eq_getElem?_getD, List.getElem?_eq_none hi]; decide
  have hrange : l = (List.range 64).map fun i => l.getD i 0 := by
    apply List.ext_getElem?
    intro i
    rw [List.getElem?_map]
    rcases Nat.lt_or_ge i 64 with hi | hi
    · rw [List.getElem?_range hi, List.getElem?_eq_getElem (by omega), Option.map_some, List.getD_eq_getElem?_getD, List.getElem?_eq_getElem (by omega)]; rfl
    · rw [List.getElem?_eq_none (by omega), List.getElem?_eq_none (by simpa using hi)]; rfl
  have hx2 : out8 (eb ⟨a8, b8, c8, d8, e8, f8, g8, h8⟩ l) s = .ok v s' := hx1
  rw [hrange, eb_eq] at hx2
  have call := hc w ⟨a8, b8, c8, d8, e8, f8, g8, h8⟩ hok8 (some ⟨E.ι b, E.sh b + off, none⟩) (E.ι b) (E.sh b + off) c' (fun i => l.getD i 0) hV hB hK hlt
  rw [show (⟨[.agg ⟨ws'⟩, .slice (some ⟨E.ι b, E.sh b + off, none⟩) 64 c']⟩ : Array Value) = #[.agg (arr8 ⟨a8, b8, c8, d8, e8, f8, g8, h8⟩), .slice (some ⟨E.ι b, E.sh b + off, none⟩) 64 c'] by rw [hws', n1]; rfl]
  refine call.mono fun e w' ⟨he, hbel⟩ => ?_
  refine ⟨E, _, he, ?_, ?_⟩
  · generalize fold1 ⟨a8, b8, c8, d8, e8, f8, g8, h8⟩ (fun i => l.getD i 0) = z at hx2
    obtain ⟨a, b, c, d, e, f, g, h⟩ := z
    cases hx2
    exact plain_VR E 2 _ rfl
  · have es : s' = s := by
      generalize fold1 ⟨a8, b8, c8, d8, e8, f8, g8, h8⟩ (fun i => l.getD i 0) = z at hx2
      obtain ⟨a, b, c, d, e, f, g, h⟩ := z
      cases hx2
      rfl
    subst es
    exact stp_below h hbel
/-- The two functions. -/
def hooks (f : FuncId) : Option (List Value → St → Rv) :=
  cond (Nat.beq f 76) (some (mixH 3)) (cond (Nat.beq f 64) (some (mixH 2)) none)
theorem hooks_ok {N : Nat} : HookOk N Tryz.prog hooks := by
  intro f g hf args args' s s' v E w h ha hx
  unfold hooks at hf
  cases h1 : Nat.beq f 76 with
  | true =>
    rw [h1] at hf
    cases hf
    obtain rfl := Nat.eq_of_beq_eq_true h1
    exact mixH_ok (by decide) (fun w s hs a b off c B hv hB hK hw => folded_any w s hs a b off c B hv hB hK hw) h ha hx
  | false =>
    rw [h1] at hf
    cases h2 : Nat.beq f 64 with
    | true =>
      rw [h2] at hf
      cases hf
      obtain rfl := Nat.eq_of_beq_eq_true h2
      exact mixH_ok (by decide) (fun w s hs a b off c B hv hB hK hw => mixed_any w s hs a b off c B hv hB hK hw) h ha hx
    | false => rw [h2] at hf; cases hf
end Go.Proofs.YtgglbjnfbfpiiaaGreatDoor.Dg
