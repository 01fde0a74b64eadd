import Derived.Test.YtpmdjopojcgpeaaGreatDoorHqq
import Derived.Test.YtpmdjopojcgpeaaGreatDoorCaq
import Derived.Maps.Own
import Derived.Maps.OwnSet
import Derived.Maps.AppendAt
import Derived.Maps.Ext
import Derived.WideKeyEntry
/-
  A device in memory, in parts: maps by hashes, rows; what a step elsewhere leaves of them.
-/
namespace Go.Proofs.YtpmdjopojcgpeaaGreatDoor
open Go.RowKit Go.Maps Go.ChangeMaps

def holdR (v : Value) : Option (DataW Value × List MemPlace) := some (.held v, [])
theorem map_turn {H : Type} {P : Program} {k : TypeId} {R : Value → Option (DataW H × List MemPlace)} {F : Nat → Prop} {w w' : World} {b n : Nat} {D : DataW H} (h : w.ownsMap P k R b n D) (hs : Turn F w w') (hb : ¬ F b) : w'.ownsMap P k R b n D := by
  have hlt := h.lt
  obtain ⟨es, clock, hg, r⟩ := h
  exact ⟨es, clock, (hs.block b hlt hb).trans hg, r⟩
theorem own_ne_map {w : World} {base e size n : Nat} {v : Value} {xs : List Value} (h : w.ownsRow base e size v n xs) {H : Type} {P : Program} {kt : TypeId} {R : Value → Option (DataW H × List MemPlace)} {b m : Nat} {D : DataW H} (hm : w.ownsMap P kt R b m D) : v.ownBlock ≠ some b := by
  intro k
  obtain ⟨es, clock, hg, _⟩ := hm
  obtain ⟨cur, hc⟩ := own_block h k
  rw [hg] at hc
  cases hc

/-! ### what is off a set of blocks -/
/-- NO BLOCK OF CELLS OF THE TYPE T IS ONE OF G's. -/
def Off (w : World) (G : Nat → Prop) (T : TypeId) : Prop := ∀ b cs fz, w.heap[b]? = some (.cells cs T fz) → ¬ G b
theorem Off.row {w : World} {base e size n : Nat} {v : Value} {xs : List Value} (h : w.ownsRow base e size v n xs) {T : TypeId} (hT : e ≠ T) : Off w (fun i => v.ownBlock = some i) T := fun b cs fz hb q => by
  obtain ⟨cur, hc⟩ := own_block h q
  rw [hb] at hc
  injection hc with hc
  injection hc with _ h2
  exact hT h2.symm
theorem Off.map {w : World} {H : Type} {P : Program} {kt : TypeId} {R : Value → Option (DataW H × List MemPlace)} {m n : Nat} {D : DataW H} (hm : w.ownsMap P kt R m n D) (T : TypeId) : Off w (fun i => i = m) T := fun b cs fz hb q => by
  subst q
  obtain ⟨es, clock, hg, _⟩ := hm
  rw [hg] at hb
  cases hb
theorem Off.db {w : World} {g : Nat} {d : Dvf} (h : Db w g d) {T : TypeId} (hT : 123 ≠ T) : Off w (fun i => i = g) T := fun b cs fz hb q => by
  subst q
  rw [h.blk] at hb
  injection hb with hb
  injection hb with _ h2
  exact hT h2
theorem Off.none (w : World) (T : TypeId) : Off w (fun _ => False) T := fun _ _ _ _ q => q
theorem Off.lt {w : World} {G : Nat → Prop} (T : TypeId) (h : ∀ i, G i → w.heap.size ≤ i) : Off w G T := fun b cs fz hb q => by
  have := h b q
  have := (Array.getElem?_eq_some_iff.1 hb).1
  omega
theorem own_off {G : Nat → Prop} {w w' : World} {base e size n : Nat} {v : Value} {xs : List Value} (h : w.ownsRow base e size v n xs) (t : Turn G w w') (o : Off w G e) : w'.ownsRow base e size v n xs :=
  own_turn h t (fun g hg q => by
    obtain ⟨cur, hc⟩ := own_block h hg
    exact o g cur _ hc q)
/-- BYTES IN A BLOCK OF THEIR OWN, one of E's; no more than a log may have. -/
structure Dat (w : World) (E : Nat → Prop) (u : Value) (s : List Nat) : Prop where
  own : w.ownsRow 0 5 1 u s.length (bv s)
  foot : ∀ g, u.ownBlock = some g → E g
  ok : s.length ≤ 1048576 ∧ ∀ x ∈ s, x < 256
theorem Dat.off {G : Nat → Prop} {w w' : World} {E : Nat → Prop} {u : Value} {s : List Nat} (h : Dat w E u s) (t : Turn G w w') (o : Off w G 5) : Dat w' E u s := ⟨own_off h.own t o, h.foot, h.ok⟩
theorem Dat.turn {F G : Nat → Prop} {w w' : World} {u : Value} {s : List Nat} (h : Dat w F u s) (hs : Turn G w w') (hd : ∀ i, F i → i < w.heap.size → ¬ G i) : Dat w' F u s :=
  ⟨own_turn h.own hs (fun g hg => hd g (h.foot g hg) (h.own.lt g hg).2), h.foot, h.ok⟩
theorem Dat.mono {F G : Nat → Prop} {w : World} {u : Value} {s : List Nat} (h : Dat w F u s) (hd : ∀ i, F i → G i) : Dat w G u s := ⟨h.own, fun g hg => hd g (h.foot g hg), h.ok⟩
theorem Dat.vb {w : World} {E : Nat → Prop} {u : Value} {s : List Nat} (h : Dat w E u s) : Vb w u s := by
  have hl := h.ok.1
  rcases h.own.2 with ⟨rfl, h0⟩ | ⟨g, cap, cur, rfl, hb, hg, h1, h2, h3, h4⟩
  · exact ⟨none, 0, 0, 0, by rw [h0], ⟨fun k => by omega, fun i hi => by omega, fun i hi => by omega, by omega⟩, by omega, fun _ => rfl, by omega⟩
  · refine ⟨_, g, 0, cap, rfl, ⟨fun _ => rfl, fun i hi => ?_, fun i hi => ?_, by omega⟩, h1, (fun z => by cases z), by omega⟩
    · have := h.own.cells (g := g) rfl i _ (bv_at hi)
      rw [show (⟨g, 0, none⟩ : Addr).add i = ⟨g, 0 + i, none⟩ by unfold Addr.add; split <;> simp_all] at this
      exact this
    · have := gd_lt h.ok.2 i
      omega
theorem Dat.nil (w : World) (E : Nat → Prop) : Dat w E nilS [] := ⟨World.ownsRow_nil _ _ _ _, fun g hg => by simp [Value.ownBlock] at hg, by simp, fun x hx => by cases hx⟩
theorem Ans.dat {w w' : World} {u : Value} {s : List Nat} (h : Ans w w' u s) (hl : s.length ≤ 1048576) : Dat w' (fun i => u.ownBlock = some i) u s := ⟨own_base h.own, fun _ q => q, hl, h.byt⟩
theorem Db.neM {w : World} {g : Nat} {d : Dvf} (h : Db w g d) {H : Type} {P : Program} {kt : TypeId} {R : Value → Option (DataW H × List MemPlace)} {m n : Nat} {D : DataW H} (hm : w.ownsMap P kt R m n D) : g ≠ m := by
  rintro rfl
  obtain ⟨es, clock, hg, _⟩ := hm
  rw [h.blk] at hg
  cases hg

/-! ### a map by hashes -/
/-- BLOCK m IS A MAP BY HASHES, of lists: under k stands V k. -/
structure Mh (w : World) (m N : Nat) (D : DataW Value) (V : List Nat → Value) : Prop where
  map : w.ownsMap Tryz.prog 38 holdR m N D
  val : ∀ k, IsH k → D.atKey (klit k) (.held nilS) = .held (V k)
theorem hold_inj {u v : Value} (h : (DataW.held u : DataW Value) = .held v) : u = v := by
  injection h
theorem Mh.turn {G : Nat → Prop} {w w' : World} {m N : Nat} {D : DataW Value} {V : List Nat → Value} (h : Mh w m N D V) (t : Turn G w w') (hm : ¬ G m) : Mh w' m N D V := ⟨map_turn h.map t hm, h.val⟩
theorem Mh.look {w : World} {m N : Nat} {D : DataW Value} {V : List Nat → Value} (h : Mh w m N D V) {T E : TypeId} (ht : Tryz.prog.underlying T = some (.map 38 E)) (hz : ∀ w, (zeroValue E).run Tryz.prog w = .ok nilS w) {k : List Nat} (hk : IsH k) :
    (Instr.lookup T (.map (some m)) (.agg (hA k)) false).run Tryz.prog w = .ok (V k) w := by
  obtain ⟨v, ps, hr, hv⟩ := h.map.lookup keyed ht (hz w) (zd := .held nilS) (zp := []) rfl (keyOf_hash hk)
  rw [hr]
  rw [h.val k hk] at hv
  have e := Option.some.inj hv
  rw [hold_inj (Prod.mk.inj e).1]
theorem Mh.look_ok {w : World} {m N : Nat} {D : DataW Value} {V : List Nat → Value} (h : Mh w m N D V) {T E : TypeId} (ht : Tryz.prog.underlying T = some (.map 38 E)) (hz : ∀ w, (zeroValue E).run Tryz.prog w = .ok nilS w) {k : List Nat} (hk : IsH k) :
    (Instr.lookup T (.map (some m)) (.agg (hA k)) true).run Tryz.prog w = .ok (.tuple #[V k, .bool (Maps.has D (klit k))]) w := by
  obtain ⟨v, ps, hr, hv⟩ := h.map.look_ok keyed ht (hz w) (zd := .held nilS) (zp := []) rfl (keyOf_hash hk)
  rw [hr]
  rw [h.val k hk] at hv
  have e := Option.some.inj hv
  rw [hold_inj (Prod.mk.inj e).1]
theorem Mh.put {w : World} {m N : Nat} {D : DataW Value} {V : List Nat → Value} (h : Mh w m N D V) (hn : N < maxLen) {T E : TypeId} (ht : Tryz.prog.underlying T = some (.map 38 E)) {k : List Nat} (hk : IsH k) (v : Value) :
    ∃ w', (Instr.mapUpdate T (.map (some m)) (.agg (hA k)) v).run Tryz.prog w = .ok () w' ∧ Mh w' m (N + 1) (D.put (klit k) (.held v)) (fun k' => if k' = k then v else V k') ∧ Turn (fun i => i = m) w w' := by
  obtain ⟨w', hr, hm, hg⟩ := h.map.update keyed ht hn (keyOf_hash hk) (val := v) (d := .held v) (ps := []) rfl
  refine ⟨w', hr, ⟨hm, fun k' hk' => ?_⟩, Turn.of_grown hg (fun k e => (Option.some.inj e).symm)⟩
  by_cases e : k' = k
  · subst e
    rw [if_pos rfl, atKey_put_same h.map.isMap (klit_key hk)]
  · rw [if_neg e, atKey_put_other (fun q => e (klit_inj hk' hk q))]
    exact h.val k' hk'
theorem keyLawH : WideMaps.KeyLaw Tryz.prog 38 := deep_law_laid (by kernel_rfl) (m := 2) (by decide) (by
    have h : (decide (38 < Tryz.prog.types.size)) = true := by kernel_rfl
    exact of_decide_eq_true h) (by kernel_rfl) (by rw [Tryz.underlying38])
theorem nodup_key : ∀ (l : List MapEntry), (l.map (·.key)).Nodup → ∀ x ∈ l, ∀ y ∈ l, x.key = y.key → x = y
  | [], _, x, hx, _, _, _ => by cases hx
  | a :: l, h, x, hx, y, hy, e => by
    simp only [List.map_cons, List.nodup_cons] at h
    rcases List.mem_cons.1 hx with e1 | q1
    · rcases List.mem_cons.1 hy with e2 | q2
      · rw [e1, e2]
      · exact absurd (List.mem_map.2 ⟨y, q2, e.symm.trans (by rw [e1])⟩) h.1
    · rcases List.mem_cons.1 hy with e2 | q2
      · exact absurd (List.mem_map.2 ⟨x, q1, e.trans (by rw [e2])⟩) h.1
      · exact nodup_key l h.2 x q1 y q2 e
theorem turn_setBlock {w : World} {b : Nat} {es : Array MapEntry} {clock : Nat} (hb : w.heap[b]? = some (.map es clock)) (ob : Obj) : Turn (fun i => i = b) w (setBlock w b ob) :=
  ⟨rfl, rfl, rfl, by simp [setBlock], fun i _ hi => heap_setBlock_other hb ob hi⟩
/-- 'm[k] = append(m[k], ..)': what stands there is read, the entry made; then what was made of it is laid there. -/
theorem Mh.entry {w : World} {m N : Nat} {D : DataW Value} {V : List Nat → Value} (h : Mh w m N D V) (hn : N < maxLen) {T E : TypeId} (ht : Tryz.prog.underlying T = some (.map 38 E)) (hz : ∀ w, (zeroValue E).run Tryz.prog w = .ok nilS w) {k : List Nat} (hk : IsH k) :
    ∃ (st : Nat) (w1 : World) (es1 : Array MapEntry) (c1 : Nat), (Instr.mapEntry T (.map (some m)) (.agg (hA k))).run Tryz.prog w = .ok (.tuple #[V k, goInt st]) w1 ∧ Turn (fun i => i = m) w w1 ∧ w1.heap[m]? = some (.map es1 c1) ∧
      ∀ (w2 : World) (v : Value), w2.heap[m]? = some (.map es1 c1) → ∃ w3, (Instr.entryStore T (.map (some m)) (goInt st) v).run Tryz.prog w2 = .ok () w3 ∧ Mh w3 m (N + 1) (D.put (klit k) (.held v)) (fun k' => if k' = k then v else V k') ∧ Turn (fun i => i = m) w2 w3 := by
  have hl := h.look ht hz hk
  have hput := fun v => h.put hn ht hk v
  obtain ⟨es, clock, hb, F, hs, hD⟩ := h.map
  obtain ⟨v0, st, es1, c1, hr, hv0, hst⟩ := WideElems.entry_then_store keyLawH ht hz hb F (keyOf_hash hk)
  have ev : v0 = V k := by
    rcases Maps.fit_look false keyed ht (hz w) hb F (keyOf_hash hk) with ⟨q, hno, _⟩ | ⟨e0, y, hm0, hk0, q, _⟩
    · rw [hl] at q
      rcases hv0 with ⟨e1, hm1, hk1, _⟩ | ⟨_, e1⟩
      · exact absurd hk1 (hno e1 hm1)
      · rw [e1]
        exact (Result.ok.inj q).1.symm
    · rw [hl] at q
      rcases hv0 with ⟨e1, hm1, hk1, e2⟩ | ⟨hno, _⟩
      · have := nodup_key _ F.stamped.2.2 e0 hm0 e1 hm1 (hk0.trans hk1.symm)
        subst this
        rw [e2]
        exact (Result.ok.inj q).1.symm
      · exact absurd hk0 (hno e0 hm0)
  subst ev
  refine ⟨st, _, es1, c1, hr, turn_setBlock hb _, heap_setBlock_same hb _, fun w2 v hw2 => ?_⟩
  obtain ⟨es', c', q1, q2⟩ := hst w2 v hw2
  obtain ⟨w', r1, r2, r3⟩ := hput v
  rw [q2] at r1
  injection r1 with _ r1
  refine ⟨_, q1, ⟨?_, r2.val⟩, turn_setBlock hw2 _⟩
  obtain ⟨es'', c'', h1, h2⟩ := r2.map
  rw [← r1, heap_setBlock_same hb] at h1
  injection h1 with h1
  injection h1 with h1 h1'
  subst h1
  subst h1'
  exact ⟨es', c', heap_setBlock_same hw2 _, h2⟩
theorem Mh.new {w : World} {m : Nat} (h : w.heap[m]? = some (.map #[] 0)) : Mh w m 0 (.map []) (fun _ => nilS) := by
  refine ⟨⟨#[], 0, h, ⟨by simp, MapKept.stamped_empty 0, by simp⟩, Nat.le_refl _, rfl⟩, fun k _ => rfl⟩

/-! ### blobs -/
structure Bl (w : World) (E : Nat → Prop) (m N : Nat) (D : DataW Value) (V : List Nat → Value) (bl : List Nat → Option (List Nat)) (cnt : Nat) : Prop where
  mh : Mh w m N D V
  has : ∀ k, IsH k → Maps.has D (klit k) = (bl k).isSome
  dat : ∀ k, IsH k → Dat w E (V k) ((bl k).getD [])
  size : Maps.size D = cnt
theorem Bl.turn {G : Nat → Prop} {w w' : World} {E : Nat → Prop} {m N : Nat} {D : DataW Value} {V : List Nat → Value} {bl : List Nat → Option (List Nat)} {cnt : Nat} (h : Bl w E m N D V bl cnt) (t : Turn G w w') (hm : ¬ G m) (o : Off w G 5) : Bl w' E m N D V bl cnt :=
  ⟨h.mh.turn t hm, h.has, fun k hk => (h.dat k hk).off t o, h.size⟩
theorem Bl.mono {w : World} {E E' : Nat → Prop} {m N N' : Nat} {D : DataW Value} {V : List Nat → Value} {bl : List Nat → Option (List Nat)} {cnt : Nat} (h : Bl w E m N D V bl cnt) (hE : ∀ i, E i → E' i) (hN : N ≤ N') : Bl w E' m N' D V bl cnt :=
  ⟨⟨h.mh.map.mono hN, h.mh.val⟩, h.has, fun k hk => (h.dat k hk).mono hE, h.size⟩
theorem Bl.put {w : World} {E : Nat → Prop} {m N : Nat} {D : DataW Value} {V : List Nat → Value} {bl : List Nat → Option (List Nat)} {cnt : Nat} (h : Bl w E m N D V bl cnt) (hn : N < maxLen) {T E' : TypeId} (ht : Tryz.prog.underlying T = some (.map 38 E')) {k : List Nat} (hk : IsH k) {v : Value} {x : List Nat} (hv : Dat w E v x) :
    ∃ w', (Instr.mapUpdate T (.map (some m)) (.agg (hA k)) v).run Tryz.prog w = .ok () w' ∧ Bl w' E m (N + 1) (D.put (klit k) (.held v)) (fun k' => if k' = k then v else V k') (fun k' => if k' = k then some x else bl k') (if (bl k).isSome then cnt else cnt + 1) ∧ Turn (fun i => i = m) w w' := by
  obtain ⟨w', hr, hm, t⟩ := h.mh.put hn ht hk v
  refine ⟨w', hr, ⟨hm, fun k' hk' => ?_, fun k' hk' => ?_, ?_⟩, t⟩
  · by_cases e : k' = k
    · subst e
      rw [if_pos rfl, has_put_same h.mh.map.isMap (klit_key hk)]
      rfl
    · rw [if_neg e, has_put_other (fun q => e (klit_inj hk' hk q))]
      exact h.has k' hk'
  · by_cases e : k' = k
    · rw [if_pos e, if_pos e]
      exact hv.off t (Off.map h.mh.map 5)
    · rw [if_neg e, if_neg e]
      exact (h.dat k' hk').off t (Off.map h.mh.map 5)
  · rw [size_put (h.mh.map.tidy keyed), h.has k hk, h.size]

/-! ### lists by keys -/
structure Rw (w : World) (T size m N : Nat) (D : DataW Value) (V : List Nat → Value) (R : World → List Nat → Nat → List Value → Prop) (F : Nat → Prop) : Prop where
  mh : Mh w m N D V
  row : ∀ k, IsH k → ∃ n xs, w.ownsRow 0 T size (V k) n xs ∧ R w k n xs ∧ n ≤ N
  foot : ∀ k b, IsH k → (V k).ownBlock = some b → F b
  apart : ∀ k k' b, IsH k → IsH k' → (V k).ownBlock = some b → (V k').ownBlock = some b → k = k'
theorem Rw.turn {G : Nat → Prop} {w w' : World} {T size m N : Nat} {D : DataW Value} {V : List Nat → Value} {R : World → List Nat → Nat → List Value → Prop} {F : Nat → Prop} (h : Rw w T size m N D V R F) (t : Turn G w w') (hm : ¬ G m) (o : Off w G T) (hR : ∀ k n xs, R w k n xs → R w' k n xs) : Rw w' T size m N D V R F :=
  ⟨h.mh.turn t hm, fun k hk => by
    obtain ⟨n, xs, h1, h2, h3⟩ := h.row k hk
    exact ⟨n, xs, own_off h1 t o, hR k n xs h2, h3⟩, h.foot, h.apart⟩
theorem Rw.mono {w : World} {T size m N N' : Nat} {D : DataW Value} {V : List Nat → Value} {R R' : World → List Nat → Nat → List Value → Prop} {F F' : Nat → Prop} (h : Rw w T size m N D V R F) (hN : N ≤ N') (hR : ∀ k n xs, R w k n xs → R' w k n xs) (hF : ∀ i, F i → F' i) : Rw w T size m N' D V R' F' :=
  ⟨⟨h.mh.map.mono hN, h.mh.val⟩, fun k hk => by
    obtain ⟨n, xs, h1, h2, h3⟩ := h.row k hk
    exact ⟨n, xs, h1, hR k n xs h2, Nat.le_trans h3 hN⟩, fun k b hk hb => hF b (h.foot k b hk hb), h.apart⟩
theorem Rw.new {w : World} {m : Nat} (h : w.heap[m]? = some (.map #[] 0)) {T size : Nat} {R : World → List Nat → Nat → List Value → Prop} {F : Nat → Prop} (hR : ∀ k, R w k 0 []) : Rw w T size m 0 (.map []) (fun _ => nilS) R F :=
  ⟨Mh.new h, fun k _ => ⟨0, [], World.ownsRow_nil _ _ _ _, hR k, Nat.le_refl _⟩, fun k b _ hb => by simp [Value.ownBlock] at hb, fun k k' b _ _ hb => by simp [Value.ownBlock] at hb⟩
/-- A LIST GROWS, and is laid back under its key. -/
theorem Rw.put {w w3 : World} {T size m N : Nat} {D D' : DataW Value} {V : List Nat → Value} {R R' : World → List Nat → Nat → List Value → Prop} {F F' : Nat → Prop} (h : Rw w T size m N D V R F) {k : List Nat} (hk : IsH k)
    {v' : Value} {n' : Nat} {xs' : List Value} (own : w3.ownsRow 0 T size v' n' xs') (hn' : n' ≤ N + 1) (t : Turn (fun i => i = m ∨ (V k).ownBlock = some i) w w3)
    (vf : v'.ownBlock = (V k).ownBlock ∨ ∃ g, v'.ownBlock = some g ∧ w.heap.size ≤ g) (hm : Mh w3 m (N + 1) D' (fun k' => if k' = k then v' else V k'))
    (hR : R' w3 k n' xs') (hO : ∀ k' n xs, k' ≠ k → R w k' n xs → R' w3 k' n xs) (hF : ∀ i, F i → F' i) (hF' : ∀ i, v'.ownBlock = some i → F' i) :
    Rw w3 T size m (N + 1) D' (fun k' => if k' = k then v' else V k') R' F' := by
  have blk : ∀ k' b, IsH k' → k' ≠ k → (V k').ownBlock = some b → v'.ownBlock ≠ some b := fun k' b hk' hne h1 h2 => by
    rcases vf with e | ⟨g, e, hg⟩
    · exact hne (h.apart k' k b hk' hk h1 (e ▸ h2))
    · rw [e] at h2
      obtain ⟨n, ys, oy, _⟩ := h.row k' hk'
      have := (oy.lt b h1).2
      have := Option.some.inj h2
      omega
  refine ⟨hm, fun k' hk' => ?_, fun k' b hk' hb => ?_, fun k1 k2 b h1 h2 hb1 hb2 => ?_⟩
  · by_cases e : k' = k
    · subst e
      rw [if_pos rfl]
      exact ⟨n', xs', own, hR, hn'⟩
    · rw [if_neg e]
      obtain ⟨n, ys, oy, r, hy⟩ := h.row k' hk'
      refine ⟨n, ys, own_turn oy t (fun b hb q => ?_), hO k' n ys e r, by omega⟩
      rcases q with q | q
      · exact own_ne_map oy h.mh.map (q ▸ hb)
      · exact e (h.apart k' k b hk' hk hb q)
  · by_cases e : k' = k
    · rw [if_pos e] at hb
      exact hF' b hb
    · rw [if_neg e] at hb
      exact hF b (h.foot k' b hk' hb)
  · by_cases e1 : k1 = k
    · by_cases e2 : k2 = k
      · rw [e1, e2]
      · rw [if_pos e1] at hb1
        rw [if_neg e2] at hb2
        exact (blk k2 b h2 e2 hb2 hb1).elim
    · by_cases e2 : k2 = k
      · rw [if_neg e1] at hb1
        rw [if_pos e2] at hb2
        exact (blk k1 b h1 e1 hb1 hb2).elim
      · rw [if_neg e1] at hb1
        rw [if_neg e2] at hb2
        exact h.apart k1 k2 b h1 h2 hb1 hb2
theorem Off.or {w : World} {G H : Nat → Prop} {T : TypeId} (h : Off w G T) (k : Off w H T) : Off w (fun i => G i ∨ H i) T := fun b cs fz hb q => by
  rcases q with q | q
  · exact h b cs fz hb q
  · exact k b cs fz hb q
end Go.Proofs.YtpmdjopojcgpeaaGreatDoor
