import Derived.Test.YtpmdjopojcgpeaaGreatDoorDcq
/-
  A device in memory: the whole; what its steps make of it.
-/
namespace Go.Proofs.YtpmdjopojcgpeaaGreatDoor
open Go.RowKit Go.Maps Go.ChangeMaps

/-- what a device keeps, as data; of old times their number alone -/
structure Dst where
  sl : Int
  rm : Int
  bl : List Nat → Option (List Nat)
  cnt : Nat
  log : List Nat
  c : Int
  tag : List Nat
  ac : List Acn
  sta : List Nat → List Sty
  tm : Nat
  tch : List (List Nat)
/-- where it lies -/
structure Dx where
  lg : Value
  ls : Value
  tc : Value
  ac : Value
  ch : Value
  m1 : Nat
  m2 : Nat
  m3 : Nat
  D1 : DataW Value
  D2 : DataW Value
  D3 : DataW Value
  V1 : List Nat → Value
  V2 : List Nat → Value
  V3 : List Nat → Value
  N : Nat
  E : Nat → Prop
def Dx.dvf (X : Dx) (s : Dst) : Dvf := ⟨s.sl, s.rm, .map (some X.m1), X.lg, s.c, s.tag, false, X.ch, X.ac, .map (some X.m2), .map (some X.m3), X.ls, X.tc⟩

def sts : List Value → List Sty → List Value
  | d :: ds, x :: S => stc x.since d x.there ++ sts ds S
  | _, _ => []
theorem sts_len : ∀ (ds : List Value) (S : List Sty), ds.length = S.length → (sts ds S).length = S.length * 3
  | [], [], _ => rfl
  | d :: ds, x :: S, h => by
    have := sts_len ds S (by simpa using h)
    simp only [sts, List.length_append, this, stc, List.length_cons, List.length_nil]
    omega
theorem sts_at : ∀ (ds : List Value) (S : List Sty) (i : Nat) (d : Value) (x : Sty), ds[i]? = some d → S[i]? = some x → ∀ (j : Nat) (v : Value), (stc x.since d x.there)[j]? = some v → (sts ds S)[i * 3 + j]? = some v
  | d :: ds, x :: S, 0, d', x', h, h', j, v, hv => by
    simp at h h'
    subst h
    subst h'
    simp only [sts, Nat.zero_mul, Nat.zero_add]
    rw [List.getElem?_append_left (List.getElem?_eq_some_iff.1 hv).1]
    exact hv
  | d :: ds, x :: S, i + 1, d', x', h, h', j, v, hv => by
    have := sts_at ds S i d' x' (by simpa using h) (by simpa using h') j v hv
    simp only [sts]
    have e : (stc x.since d x.there).length = 3 := rfl
    rw [List.getElem?_append_right (by rw [e]; omega), e, show (i + 1) * 3 + j - 3 = i * 3 + j by omega]
    exact this
  | [], _, _, _, _, h, _, _, _, _ => by simp at h
  | _ :: _, [], _, _, _, _, h, _, _, _ => by simp at h
theorem sts_app : ∀ (ds : List Value) (S : List Sty) (d : Value) (x : Sty), ds.length = S.length → sts ds S ++ stc x.since d x.there = sts (ds ++ [d]) (S ++ [x])
  | [], [], d, x, _ => by simp [sts]
  | d' :: ds, x' :: S, d, x, h => by
    have := sts_app ds S d x (by simpa using h)
    simp only [sts, List.cons_append, List.append_assoc, this]
/-- the stays of a key, as cells -/
def StR (E : Nat → Prop) (sta : List Nat → List Sty) (w : World) (k : List Nat) (n : Nat) (xs : List Value) : Prop :=
  n = (sta k).length ∧ ∃ ds, ds.length = (sta k).length ∧ xs = sts ds (sta k) ∧ ∀ (i : Nat) (d : Value) (x : Sty), ds[i]? = some d → (sta k)[i]? = some x → Dat w E d x.data
theorem StR.off {G : Nat → Prop} {E : Nat → Prop} {sta : List Nat → List Sty} {w w' : World} {k : List Nat} {n : Nat} {xs : List Value} (h : StR E sta w k n xs) (t : Turn G w w') (o : Off w G 5) : StR E sta w' k n xs := by
  obtain ⟨h1, ds, h2, h3, h4⟩ := h
  exact ⟨h1, ds, h2, h3, fun i d x hd hx => (h4 i d x hd hx).off t o⟩
theorem StR.mono {E E' : Nat → Prop} {sta : List Nat → List Sty} {w : World} {k : List Nat} {n : Nat} {xs : List Value} (h : StR E sta w k n xs) (hE : ∀ i, E i → E' i) : StR E' sta w k n xs := by
  obtain ⟨h1, ds, h2, h3, h4⟩ := h
  exact ⟨h1, ds, h2, h3, fun i d x hd hx => (h4 i d x hd hx).mono hE⟩
def VeR (_ : World) (_ : List Nat) (_ : Nat) (_ : List Value) : Prop := True
/-- hashes as cells -/
def hcs : List (List Nat) → List Value
  | [] => []
  | k :: l => bv k ++ hcs l
theorem hcs_app (l : List (List Nat)) (k : List Nat) : hcs (l ++ [k]) = hcs l ++ bv k := by
  induction l with
  | nil => simp [hcs]
  | cons x l ih => simp only [List.cons_append, hcs, ih, List.append_assoc]

abbrev SL : TypeId := 29
abbrev ST : TypeId := 154
abbrev AC : TypeId := 120
abbrev HA : TypeId := 38

/-- THE DEVICE's MEMORY BUT FOR ITS OWN BLOCK, all of it among F's. -/
structure Dr (w : World) (F : Nat → Prop) (s : Dst) (X : Dx) : Prop where
  bl : Bl w X.E X.m1 X.N X.D1 X.V1 s.bl s.cnt
  ve : Rw w SL 1 X.m2 X.N X.D2 X.V2 VeR F
  st : Rw w ST 3 X.m3 X.N X.D3 X.V3 (StR X.E s.sta) F
  lo : ∃ xs, w.ownsRow 0 SL 1 X.ls s.tm xs
  lof : ∀ b, X.ls.ownBlock = some b → F b
  lov : ∀ k b, IsH k → X.ls.ownBlock = some b → (X.V2 k).ownBlock ≠ some b
  ac : w.ownsRow 0 AC 3 X.ac s.ac.length (acc3 s.ac)
  acf : ∀ b, X.ac.ownBlock = some b → F b
  tc : w.ownsRow 0 HA 32 X.tc s.tch.length (hcs s.tch)
  tcf : ∀ b, X.tc.ownBlock = some b → F b
  lg : Dat w F X.lg s.log
  eF : ∀ i, X.E i → F i
  sep : ∀ i, X.lg.ownBlock = some i → ¬ X.E i
  md : X.m1 ≠ X.m2 ∧ X.m1 ≠ X.m3 ∧ X.m2 ≠ X.m3
  mf : F X.m1 ∧ F X.m2 ∧ F X.m3
  ch : ∃ a c, X.ch = .slice a 0 c
  up : ∀ k, IsH k → Up (s.sta k) ∧ ∀ x ∈ s.sta k, x.since ≤ s.tm + 1
  key : ∀ k ∈ s.tch, IsH k
  bd : s.tm ≤ X.N ∧ s.ac.length ≤ X.N ∧ s.tch.length ≤ X.N
theorem Dr.turn {G : Nat → Prop} {w w' : World} {F : Nat → Prop} {s : Dst} {X : Dx} (h : Dr w F s X) (t : Turn G w w') (h1 : ¬ G X.m1) (h2 : ¬ G X.m2) (h3 : ¬ G X.m3) (o5 : Off w G 5) (oS : Off w G SL) (oT : Off w G ST) (oA : Off w G AC) (oH : Off w G HA) : Dr w' F s X :=
  { h with
    bl := h.bl.turn t h1 o5
    ve := h.ve.turn t h2 oS (fun _ _ _ q => q)
    st := h.st.turn t h3 oT (fun _ _ _ q => q.off t o5)
    lo := by
      obtain ⟨xs, q⟩ := h.lo
      exact ⟨xs, own_off q t oS⟩
    ac := own_off h.ac t oA
    tc := own_off h.tc t oH
    lg := h.lg.off t o5 }
theorem Dr.keep {w w' : World} {F : Nat → Prop} {s : Dst} {X : Dx} (h : Dr w F s X) (k : Below w.heap.size w w') : Dr w' F s X :=
  h.turn (G := fun _ => False) (Turn.of_below k) (fun q => q) (fun q => q) (fun q => q) (Off.none _ _) (Off.none _ _) (Off.none _ _) (Off.none _ _) (Off.none _ _)
/-- a step elsewhere leaves it -/
theorem Dr.frame {G : Nat → Prop} {w w' : World} {F : Nat → Prop} {s : Dst} {X : Dx} (h : Dr w F s X) (t : Turn G w w') (hd : ∀ i, F i → i < w.heap.size → ¬ G i) : Dr w' F s X := by
  have hE : ∀ i, X.E i → i < w.heap.size → ¬ G i := fun i hi hl => hd i (h.eF i hi) hl
  exact { h with
    bl := ⟨h.bl.mh.turn t (hd _ h.mf.1 h.bl.mh.map.lt), h.bl.has, fun k hk => (h.bl.dat k hk).turn t hE, h.bl.size⟩
    ve := ⟨h.ve.mh.turn t (hd _ h.mf.2.1 h.ve.mh.map.lt), fun k hk => by
      obtain ⟨n, xs, q1, q2, q3⟩ := h.ve.row k hk
      exact ⟨n, xs, own_turn q1 t (fun b hb => hd b (h.ve.foot k b hk hb) (q1.lt b hb).2), q2, q3⟩, h.ve.foot, h.ve.apart⟩
    st := ⟨h.st.mh.turn t (hd _ h.mf.2.2 h.st.mh.map.lt), fun k hk => by
      obtain ⟨n, xs, q1, ⟨q2, ds, q3, q4, q5⟩, q6⟩ := h.st.row k hk
      exact ⟨n, xs, own_turn q1 t (fun b hb => hd b (h.st.foot k b hk hb) (q1.lt b hb).2), ⟨q2, ds, q3, q4, fun i d x hi hx => (q5 i d x hi hx).turn t hE⟩, q6⟩, h.st.foot, h.st.apart⟩
    lo := by
      obtain ⟨xs, q⟩ := h.lo
      exact ⟨xs, own_turn q t (fun b hb => hd b (h.lof b hb) (q.lt b hb).2)⟩
    ac := own_turn h.ac t (fun b hb => hd b (h.acf b hb) (h.ac.lt b hb).2)
    tc := own_turn h.tc t (fun b hb => hd b (h.tcf b hb) (h.tc.lt b hb).2)
    lg := h.lg.turn t hd }
/-- the blocks may be more -/
theorem Dr.mono {w : World} {F F' : Nat → Prop} {s : Dst} {X : Dx} (h : Dr w F s X) (hF : ∀ i, F i → F' i) : Dr w F' s X :=
  { h with
    ve := h.ve.mono (Nat.le_refl _) (fun _ _ _ q => q) hF
    st := h.st.mono (Nat.le_refl _) (fun _ _ _ q => q) hF
    lof := fun b q => hF b (h.lof b q)
    acf := fun b q => hF b (h.acf b q)
    tcf := fun b q => hF b (h.tcf b q)
    lg := h.lg.mono hF
    eF := fun i q => hF i (h.eF i q)
    mf := ⟨hF _ h.mf.1, hF _ h.mf.2.1, hF _ h.mf.2.2⟩ }
/-- only blocks that are there count -/
theorem Dr.clip {w : World} {F : Nat → Prop} {s : Dst} {X : Dx} (h : Dr w F s X) : Dr w (fun i => F i ∧ i < w.heap.size) s { X with E := fun i => X.E i ∧ i < w.heap.size } := by
  have str : ∀ u x, Dat w X.E u x → Dat w (fun i => X.E i ∧ i < w.heap.size) u x := fun u x q => ⟨q.own, fun b hb => ⟨q.foot b hb, (q.own.lt b hb).2⟩, q.ok⟩
  exact {
    bl := ⟨h.bl.mh, h.bl.has, fun k hk => str _ _ (h.bl.dat k hk), h.bl.size⟩
    ve := ⟨h.ve.mh, h.ve.row, fun k b hk hb => by
      obtain ⟨n, xs, q1, _⟩ := h.ve.row k hk
      exact ⟨h.ve.foot k b hk hb, (q1.lt b hb).2⟩, h.ve.apart⟩
    st := ⟨h.st.mh, fun k hk => by
      obtain ⟨n, xs, q1, ⟨q2, ds, q3, q4, q5⟩, q6⟩ := h.st.row k hk
      exact ⟨n, xs, q1, ⟨q2, ds, q3, q4, fun i d x hi hx => str _ _ (q5 i d x hi hx)⟩, q6⟩, fun k b hk hb => by
      obtain ⟨n, xs, q1, _⟩ := h.st.row k hk
      exact ⟨h.st.foot k b hk hb, (q1.lt b hb).2⟩, h.st.apart⟩
    lo := h.lo
    lof := fun b q => by
      obtain ⟨xs, o⟩ := h.lo
      exact ⟨h.lof b q, (o.lt b q).2⟩
    lov := h.lov
    ac := h.ac
    acf := fun b q => ⟨h.acf b q, (h.ac.lt b q).2⟩
    tc := h.tc
    tcf := fun b q => ⟨h.tcf b q, (h.tc.lt b q).2⟩
    lg := ⟨h.lg.own, fun b hb => ⟨h.lg.foot b hb, (h.lg.own.lt b hb).2⟩, h.lg.ok⟩
    eF := fun i q => ⟨h.eF i q.1, q.2⟩
    sep := fun i q k => h.sep i q k.1
    md := h.md
    mf := ⟨⟨h.mf.1, h.bl.mh.map.lt⟩, ⟨h.mf.2.1, h.ve.mh.map.lt⟩, ⟨h.mf.2.2, h.st.mh.map.lt⟩⟩
    ch := h.ch
    up := h.up
    key := h.key
    bd := h.bd }
/-- the device's own block turns -/
theorem Dr.self {w w' : World} {F : Nat → Prop} {s : Dst} {X : Dx} {g : Nat} {d : Dvf} (h : Dr w F s X) (hd : Db w g d) (t : Turn (fun i => i = g) w w') : Dr w' F s X :=
  h.turn t (fun q => (hd.neM h.bl.mh.map) q.symm) (fun q => (hd.neM h.ve.mh.map) q.symm) (fun q => (hd.neM h.st.mh.map) q.symm) (Off.db hd (by decide)) (Off.db hd (by decide)) (Off.db hd (by decide)) (Off.db hd (by decide)) (Off.db hd (by decide))

/-! ### the steps -/
/-- an access is noted -/
theorem Dr.noted {w w' : World} {F : Nat → Prop} {s : Dst} {X : Dx} (h : Dr w F s X) (hB : ∀ i, w.heap.size ≤ i → F i) {v : Value} {x : Acn} (own : w'.ownsRow 0 AC 3 v (s.ac.length + 1) (acc3 s.ac ++ x.cells)) (gr : w.grownBy w' X.ac.ownBlock) (at_ : v.ownBlock = X.ac.ownBlock ∨ v.ownBlock = some w.heap.size) :
    Dr w' F { s with ac := s.ac ++ [x] } { X with ac := v, N := X.N + 1 } := by
  have t : Turn (fun i => X.ac.ownBlock = some i) w w' := Turn.of_grown gr (fun k e => e)
  have e3 : acc3 (s.ac ++ [x]) = acc3 s.ac ++ x.cells := by
    generalize s.ac = l
    induction l with
    | nil => simp [acc3]
    | cons y l ih => simp only [List.cons_append, acc3, ih, List.append_assoc]
  exact {
    bl := (h.bl.turn t (own_ne_map h.ac h.bl.mh.map) (Off.row h.ac (by decide))).mono (fun _ q => q) (Nat.le_succ _)
    ve := (h.ve.turn t (own_ne_map h.ac h.ve.mh.map) (Off.row h.ac (by decide)) (fun _ _ _ q => q)).mono (Nat.le_succ _) (fun _ _ _ q => q) (fun _ q => q)
    st := (h.st.turn t (own_ne_map h.ac h.st.mh.map) (Off.row h.ac (by decide)) (fun _ _ _ q => q.off t (Off.row h.ac (by decide)))).mono (Nat.le_succ _) (fun _ _ _ q => q) (fun _ q => q)
    lo := by
      obtain ⟨xs, q⟩ := h.lo
      exact ⟨xs, own_off q t (Off.row h.ac (by decide))⟩
    lof := h.lof
    lov := h.lov
    ac := by
      show w'.ownsRow 0 AC 3 v (s.ac ++ [x]).length (acc3 (s.ac ++ [x]))
      rw [e3, List.length_append]
      exact own
    acf := fun b q => by
      rcases at_ with e | e
      · exact h.acf b (e ▸ q)
      · rw [e] at q
        exact hB b (by have := Option.some.inj q; omega)
    tc := own_off h.tc t (Off.row h.ac (by decide))
    tcf := h.tcf
    lg := h.lg.off t (Off.row h.ac (by decide))
    eF := h.eF
    sep := h.sep
    md := h.md
    mf := h.mf
    ch := h.ch
    up := h.up
    key := h.key
    bd := ⟨by have := h.bd; show s.tm ≤ X.N + 1; omega, by have := h.bd; show (s.ac ++ [x]).length ≤ X.N + 1; rw [List.length_append]; simp; omega, by have := h.bd; show s.tch.length ≤ X.N + 1; omega⟩ }
/-- a key is touched -/
theorem Dr.touch {w w' : World} {F : Nat → Prop} {s : Dst} {X : Dx} (h : Dr w F s X) (hB : ∀ i, w.heap.size ≤ i → F i) {v : Value} {k : List Nat} (hk : IsH k) (own : w'.ownsRow 0 HA 32 v (s.tch.length + 1) (hcs s.tch ++ bv k)) (gr : w.grownBy w' X.tc.ownBlock) (at_ : v.ownBlock = X.tc.ownBlock ∨ v.ownBlock = some w.heap.size) :
    Dr w' F { s with tch := s.tch ++ [k] } { X with tc := v, N := X.N + 1 } := by
  have t : Turn (fun i => X.tc.ownBlock = some i) w w' := Turn.of_grown gr (fun k e => e)
  exact {
    bl := (h.bl.turn t (own_ne_map h.tc h.bl.mh.map) (Off.row h.tc (by decide))).mono (fun _ q => q) (Nat.le_succ _)
    ve := (h.ve.turn t (own_ne_map h.tc h.ve.mh.map) (Off.row h.tc (by decide)) (fun _ _ _ q => q)).mono (Nat.le_succ _) (fun _ _ _ q => q) (fun _ q => q)
    st := (h.st.turn t (own_ne_map h.tc h.st.mh.map) (Off.row h.tc (by decide)) (fun _ _ _ q => q.off t (Off.row h.tc (by decide)))).mono (Nat.le_succ _) (fun _ _ _ q => q) (fun _ q => q)
    lo := by
      obtain ⟨xs, q⟩ := h.lo
      exact ⟨xs, own_off q t (Off.row h.tc (by decide))⟩
    lof := h.lof
    lov := h.lov
    ac := own_off h.ac t (Off.row h.tc (by decide))
    acf := h.acf
    tc := by
      show w'.ownsRow 0 HA 32 v (s.tch ++ [k]).length (hcs (s.tch ++ [k]))
      rw [hcs_app, List.length_append]
      exact own
    tcf := fun b q => by
      rcases at_ with e | e
      · exact h.tcf b (e ▸ q)
      · rw [e] at q
        exact hB b (by have := Option.some.inj q; omega)
    lg := h.lg.off t (Off.row h.tc (by decide))
    eF := h.eF
    sep := h.sep
    md := h.md
    mf := h.mf
    ch := h.ch
    up := h.up
    key := fun k' hk' => by
      rcases List.mem_append.1 hk' with q | q
      · exact h.key k' q
      · rw [List.mem_singleton.1 q]; exact hk
    bd := ⟨by have := h.bd; show s.tm ≤ X.N + 1; omega, by have := h.bd; show s.ac.length ≤ X.N + 1; omega, by have := h.bd; show (s.tch ++ [k]).length ≤ X.N + 1; rw [List.length_append]; simp; omega⟩ }
/-- what was touched is forgotten -/
theorem Dr.untouch {w : World} {F : Nat → Prop} {s : Dst} {X : Dx} (h : Dr w F s X) : Dr w F { s with tch := [] } { X with tc := nilS } :=
  { h with
    tc := World.ownsRow_nil _ _ _ _
    tcf := fun b q => by simp [Value.ownBlock] at q
    key := fun k hk => by cases hk
    bd := ⟨h.bd.1, h.bd.2.1, Nat.zero_le _⟩ }
/-- a change is noted -/
theorem Dr.change {w w' : World} {F : Nat → Prop} {s : Dst} {X : Dx} (h : Dr w F s X) (hB : ∀ i, w.heap.size ≤ i → F i) {v : Value} {xs : List Value} (own : w'.ownsRow 0 SL 1 v (s.tm + 1) xs) (gr : w.grownBy w' X.ls.ownBlock) (at_ : v.ownBlock = X.ls.ownBlock ∨ v.ownBlock = some w.heap.size) :
    Dr w' F { s with tm := s.tm + 1 } { X with ls := v, N := X.N + 1 } := by
  have t : Turn (fun i => X.ls.ownBlock = some i) w w' := Turn.of_grown gr (fun k e => e)
  obtain ⟨x0, hl⟩ := h.lo
  exact {
    bl := (h.bl.turn t (own_ne_map hl h.bl.mh.map) (Off.row hl (by decide))).mono (fun _ q => q) (Nat.le_succ _)
    ve := ⟨⟨(map_turn h.ve.mh.map t (own_ne_map hl h.ve.mh.map)).mono (Nat.le_succ _), h.ve.mh.val⟩, fun k hk => by
      obtain ⟨n, xs, q1, q2, q3⟩ := h.ve.row k hk
      exact ⟨n, xs, own_turn q1 t (fun b hb q => h.lov k b hk q hb), q2, Nat.le_succ_of_le q3⟩, h.ve.foot, h.ve.apart⟩
    st := (h.st.turn t (own_ne_map hl h.st.mh.map) (Off.row hl (by decide)) (fun _ _ _ q => q.off t (Off.row hl (by decide)))).mono (Nat.le_succ _) (fun _ _ _ q => q) (fun _ q => q)
    lo := ⟨xs, own⟩
    lof := fun b q => by
      rcases at_ with e | e
      · exact h.lof b (e ▸ q)
      · rw [e] at q
        exact hB b (by have := Option.some.inj q; omega)
    lov := fun k b hk q z => by
      rcases at_ with e | e
      · exact h.lov k b hk (e ▸ q) z
      · rw [e] at q
        obtain ⟨n, xs, q1, _⟩ := h.ve.row k hk
        have := (q1.lt b z).2
        have := Option.some.inj q
        omega
    ac := own_off h.ac t (Off.row hl (by decide))
    acf := h.acf
    tc := own_off h.tc t (Off.row hl (by decide))
    tcf := h.tcf
    lg := h.lg.off t (Off.row hl (by decide))
    eF := h.eF
    sep := h.sep
    md := h.md
    mf := h.mf
    ch := h.ch
    up := fun k hk => ⟨(h.up k hk).1, fun x hx => by have := (h.up k hk).2 x hx; show x.since ≤ ((s.tm + 1 : Nat) : Int) + 1; omega⟩
    key := h.key
    bd := ⟨by have := h.bd; show s.tm + 1 ≤ X.N + 1; omega, by have := h.bd; show s.ac.length ≤ X.N + 1; omega, by have := h.bd; show s.tch.length ≤ X.N + 1; omega⟩ }
/-- a blob is laid under a key -/
theorem Dr.blob {w : World} {F : Nat → Prop} {s : Dst} {X : Dx} (h : Dr w F s X) (hn : X.N < maxLen) {T E' : TypeId} (ht : Tryz.prog.underlying T = some (.map HA E')) {k : List Nat} (hk : IsH k) {v : Value} {x : List Nat} (hv : Dat w X.E v x) :
    ∃ w', (Instr.mapUpdate T (.map (some X.m1)) (.agg (hA k)) v).run Tryz.prog w = .ok () w' ∧
      Dr w' F { s with bl := fun k' => if k' = k then some x else s.bl k', cnt := if (s.bl k).isSome then s.cnt else s.cnt + 1 } { X with D1 := X.D1.put (klit k) (.held v), V1 := fun k' => if k' = k then v else X.V1 k', N := X.N + 1 } ∧ Turn (fun i => i = X.m1) w w' := by
  obtain ⟨w', hr, hb, t⟩ := h.bl.put hn ht hk hv
  have o : ∀ T, Off w (fun i => i = X.m1) T := Off.map h.bl.mh.map
  refine ⟨w', hr, {
    bl := hb
    ve := (h.ve.turn t (fun q => h.md.1 q.symm) (o _) (fun _ _ _ q => q)).mono (Nat.le_succ _) (fun _ _ _ q => q) (fun _ q => q)
    st := (h.st.turn t (fun q => h.md.2.1 q.symm) (o _) (fun _ _ _ q => q.off t (o _))).mono (Nat.le_succ _) (fun _ _ _ q => q) (fun _ q => q)
    lo := by
      obtain ⟨xs, q⟩ := h.lo
      exact ⟨xs, own_off q t (o _)⟩
    lof := h.lof
    lov := h.lov
    ac := own_off h.ac t (o _)
    acf := h.acf
    tc := own_off h.tc t (o _)
    tcf := h.tcf
    lg := h.lg.off t (o _)
    eF := h.eF
    sep := h.sep
    md := h.md
    mf := h.mf
    ch := h.ch
    up := h.up
    key := h.key
    bd := ⟨by have := h.bd; show s.tm ≤ X.N + 1; omega, by have := h.bd; show s.ac.length ≤ X.N + 1; omega, by have := h.bd; show s.tch.length ≤ X.N + 1; omega⟩ }, t⟩
/-- a version is laid under a key -/
theorem Dr.version {w w3 : World} {F : Nat → Prop} {s : Dst} {X : Dx} (h : Dr w F s X) (hB : ∀ i, w.heap.size ≤ i → F i) {k : List Nat} (hk : IsH k) {D' : DataW Value} {v' : Value} {n : Nat} {xs' : List Value}
    (hnN : n ≤ X.N) (own : w3.ownsRow 0 SL 1 v' (n + 1) xs') (t : Turn (fun i => i = X.m2 ∨ (X.V2 k).ownBlock = some i) w w3) (at_ : v'.ownBlock = (X.V2 k).ownBlock ∨ ∃ g, v'.ownBlock = some g ∧ w.heap.size ≤ g) (hm : Mh w3 X.m2 (X.N + 1) D' (fun k' => if k' = k then v' else X.V2 k')) :
    Dr w3 F s { X with D2 := D', V2 := fun k' => if k' = k then v' else X.V2 k', N := X.N + 1 } := by
  obtain ⟨n0, x0, o0, _, _⟩ := h.ve.row k hk
  have hv := h.ve.put hk own (by omega) t at_ hm (R' := VeR) (F' := F) trivial (fun _ _ _ _ _ => trivial) (fun _ q => q) (fun i q => by
      rcases at_ with e | ⟨g, e, hg⟩
      · exact h.ve.foot k i hk (e ▸ q)
      · rw [e] at q
        exact hB i (by have := Option.some.inj q; omega))
  have o : ∀ T, SL ≠ T → Off w (fun i => i = X.m2 ∨ (X.V2 k).ownBlock = some i) T := fun T q => (Off.map h.ve.mh.map T).or (Off.row o0 q)
  exact {
    bl := (h.bl.turn t (fun q => by rcases q with q | q; exact h.md.1 q; exact own_ne_map o0 h.bl.mh.map q) (o _ (by decide))).mono (fun _ q => q) (Nat.le_succ _)
    ve := hv
    st := (h.st.turn t (fun q => by rcases q with q | q; exact h.md.2.2 q.symm; exact own_ne_map o0 h.st.mh.map q) (o _ (by decide)) (fun _ _ _ q => q.off t (o _ (by decide)))).mono (Nat.le_succ _) (fun _ _ _ q => q) (fun _ q => q)
    lo := by
      obtain ⟨xs, q⟩ := h.lo
      exact ⟨xs, own_turn q t (fun b hb z => by rcases z with z | z; exact own_ne_map q h.ve.mh.map (z ▸ hb); exact h.lov k b hk hb z)⟩
    lof := h.lof
    lov := fun k' b hk' q z => by
      simp only at z
      by_cases e : k' = k
      · rw [if_pos e] at z
        rcases at_ with e' | ⟨g, e', hg⟩
        · exact h.lov k b hk q (e' ▸ z)
        · rw [e'] at z
          obtain ⟨xs, q1⟩ := h.lo
          have := (q1.lt b q).2
          have := Option.some.inj z
          omega
      · rw [if_neg e] at z
        exact h.lov k' b hk' q z
    ac := own_off h.ac t (o _ (by decide))
    acf := h.acf
    tc := own_off h.tc t (o _ (by decide))
    tcf := h.tcf
    lg := h.lg.off t (o _ (by decide))
    eF := h.eF
    sep := h.sep
    md := h.md
    mf := h.mf
    ch := h.ch
    up := h.up
    key := h.key
    bd := ⟨by have := h.bd; show s.tm ≤ X.N + 1; omega, by have := h.bd; show s.ac.length ≤ X.N + 1; omega, by have := h.bd; show s.tch.length ≤ X.N + 1; omega⟩ }
/-- a stay is laid under a key -/
theorem Dr.stay {w w3 : World} {F : Nat → Prop} {s : Dst} {X : Dx} (h : Dr w F s X) (hB : ∀ i, w.heap.size ≤ i → F i) {k : List Nat} (hk : IsH k) {D' : DataW Value} {v' : Value} {d : Value} {x : Sty} {xs : List Value}
    (hr0 : StR X.E s.sta w k (s.sta k).length xs) (hd : Dat w X.E d x.data) (hx : x.since = s.tm + 1) (hnN : (s.sta k).length ≤ X.N) (hb : X.N < 1073741824)
    (own : w3.ownsRow 0 ST 3 v' ((s.sta k).length + 1) (xs ++ stc x.since d x.there)) (t : Turn (fun i => i = X.m3 ∨ (X.V3 k).ownBlock = some i) w w3) (at_ : v'.ownBlock = (X.V3 k).ownBlock ∨ ∃ g, v'.ownBlock = some g ∧ w.heap.size ≤ g) (hm : Mh w3 X.m3 (X.N + 1) D' (fun k' => if k' = k then v' else X.V3 k')) :
    Dr w3 F { s with sta := fun k' => if k' = k then s.sta k ++ [x] else s.sta k' } { X with D3 := D', V3 := fun k' => if k' = k then v' else X.V3 k', N := X.N + 1 } := by
  obtain ⟨n0, x0, o0, _, _⟩ := h.st.row k hk
  have o : ∀ T, ST ≠ T → Off w (fun i => i = X.m3 ∨ (X.V3 k).ownBlock = some i) T := fun T q => (Off.map h.st.mh.map T).or (Off.row o0 q)
  have hv := h.st.put hk own (by omega) t at_ hm (R' := StR X.E (fun k' => if k' = k then s.sta k ++ [x] else s.sta k')) (F' := F) (by
      obtain ⟨_, ds, q3, q4, q5⟩ := hr0
      refine ⟨by simp only [if_true, List.length_append]; rfl, ds ++ [d], by simp only [if_true, List.length_append, q3]; rfl, by simp only [if_true]; rw [q4, sts_app _ _ _ _ q3], fun i d' x' hi hx' => ?_⟩
      simp only [if_true] at hx'
      rcases Nat.lt_or_ge i ds.length with q | q
      · rw [List.getElem?_append_left q] at hi
        rw [List.getElem?_append_left (by omega)] at hx'
        exact (q5 i d' x' hi hx').off t (o _ (by decide))
      · rw [List.getElem?_append_right q] at hi
        rw [List.getElem?_append_right (by omega)] at hx'
        have e0 : i - ds.length = 0 := by
          have := (List.getElem?_eq_some_iff.1 hi).1
          simp at this
          omega
        rw [e0] at hi
        rw [← q3, e0] at hx'
        simp at hi hx'
        subst hi
        subst hx'
        exact hd.off t (o _ (by decide))) (fun k' n ys hne q => by
      obtain ⟨q1, ds, q3, q4, q5⟩ := q
      refine ⟨by simp only [if_neg hne]; exact q1, ds, by simp only [if_neg hne]; exact q3, by simp only [if_neg hne]; exact q4, fun i d' x' hi hx' => ?_⟩
      simp only [if_neg hne] at hx'
      exact (q5 i d' x' hi hx').off t (o _ (by decide))) (fun _ q => q) (fun i q => by
      rcases at_ with e | ⟨g, e, hg⟩
      · exact h.st.foot k i hk (e ▸ q)
      · rw [e] at q
        exact hB i (by have := Option.some.inj q; omega))
  exact {
    bl := (h.bl.turn t (fun q => by rcases q with q | q; exact h.md.2.1 q; exact own_ne_map o0 h.bl.mh.map q) (o _ (by decide))).mono (fun _ q => q) (Nat.le_succ _)
    ve := (h.ve.turn t (fun q => by rcases q with q | q; exact h.md.2.2 q; exact own_ne_map o0 h.ve.mh.map q) (o _ (by decide)) (fun _ _ _ q => q)).mono (Nat.le_succ _) (fun _ _ _ q => q) (fun _ q => q)
    st := hv
    lo := by
      obtain ⟨xs, q⟩ := h.lo
      exact ⟨xs, own_off q t (o _ (by decide))⟩
    lof := h.lof
    lov := h.lov
    ac := own_off h.ac t (o _ (by decide))
    acf := h.acf
    tc := own_off h.tc t (o _ (by decide))
    tcf := h.tcf
    lg := h.lg.off t (o _ (by decide))
    eF := h.eF
    sep := h.sep
    md := h.md
    mf := h.mf
    ch := h.ch
    up := fun k' hk' => by
      show Up (if k' = k then s.sta k ++ [x] else s.sta k') ∧ ∀ y ∈ (if k' = k then s.sta k ++ [x] else s.sta k'), y.since ≤ (s.tm : Int) + 1
      by_cases e : k' = k
      · rw [if_pos e]
        obtain ⟨⟨u1, u2⟩, u3⟩ := h.up k hk
        have hb0 := h.bd.1
        refine ⟨⟨fun i j y z hij hy hz => ?_, fun y hy => ?_⟩, fun y hy => ?_⟩
        · rcases Nat.lt_or_ge j (s.sta k).length with q | q
          · rw [List.getElem?_append_left (by omega)] at hy
            rw [List.getElem?_append_left q] at hz
            exact u1 i j y z hij hy hz
          · rw [List.getElem?_append_right q] at hz
            have e0 : z = x := by
              have := List.mem_of_getElem? hz
              simpa using this
            rw [e0, hx]
            rcases List.mem_append.1 (List.mem_of_getElem? hy) with q' | q'
            · exact u3 y q'
            · rw [List.mem_singleton.1 q', hx]; exact Int.le_refl _
        · rcases List.mem_append.1 hy with q | q
          · exact u2 y q
          · rw [List.mem_singleton.1 q, hx]; omega
        · rcases List.mem_append.1 hy with q | q
          · exact u3 y q
          · rw [List.mem_singleton.1 q, hx]; exact Int.le_refl _
      · rw [if_neg e]
        exact h.up k' hk'
    key := h.key
    bd := ⟨by have := h.bd; show s.tm ≤ X.N + 1; omega, by have := h.bd; show s.ac.length ≤ X.N + 1; omega, by have := h.bd; show s.tch.length ≤ X.N + 1; omega⟩ }
/-- the data's blocks may be more -/
theorem Dr.data {w : World} {F : Nat → Prop} {s : Dst} {X : Dx} (h : Dr w F s X) {E' : Nat → Prop} (h1 : ∀ i, X.E i → E' i) (h2 : ∀ i, E' i → F i) (h3 : ∀ i, X.lg.ownBlock = some i → ¬ E' i) : Dr w F s { X with E := E' } :=
  { h with
    bl := h.bl.mono h1 (Nat.le_refl _)
    st := h.st.mono (Nat.le_refl _) (fun _ _ _ q => q.mono h1) (fun _ q => q)
    eF := h2
    sep := h3 }
/-- the log is another -/
theorem Dr.logs {w w' : World} {F : Nat → Prop} {s : Dst} {X : Dx} (h : Dr w F s X) {v : Value} {l : List Nat} (k : Below w.heap.size w w') (hl : Dat w' F v l) (h3 : ∀ i, v.ownBlock = some i → ¬ X.E i) : Dr w' F { s with log := l } { X with lg := v } :=
  { h.keep k with
    lg := hl
    sep := h3 }
end Go.Proofs.YtpmdjopojcgpeaaGreatDoor
