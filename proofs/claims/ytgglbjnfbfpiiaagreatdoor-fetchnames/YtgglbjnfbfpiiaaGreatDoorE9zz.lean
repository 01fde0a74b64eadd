import Derived.Test.YtgglbjnfbfpiiaaGreatDoorE8zz
/-
  The evaluator: parts of lists, built values.
-/
namespace Go.Ev
open Go
section
variable {P : Program} {E : En}
theorem bound_run {o o' : Option Value} {d n : Nat} (h : OR E o o') (hb : bound o d = some n) : (o' = none ∧ n = d) ∨ ∃ k, o' = some (.int k (.ofNat n)) := by
  cases h with
  | none => cases hb; exact .inl ⟨rfl, rfl⟩
  | some v v' hv =>
    obtain ⟨k, rfl⟩ := natOf_some (show natOf v = some n from hb)
    exact .inr ⟨k, by rw [hv.int_inv]⟩
theorem run_sliceBound {k : IntKind} {n y : Nat} {code : BoundsCode} (h : n ≤ y) (w : World) : (Instr.sliceBound (.int k (.ofNat n)) y code).run P w = .ok n w := by
  have h' : (0 : Int) ≤ Int.ofNat n ∧ Int.ofNat n ≤ (y : Int) := by simp only [Int.ofNat_eq_natCast]; omega
  simp only [Instr.sliceBound, asIntOf, Sem.run_bind, Sem.run_pure, Result.andThen_ok, h', and_self, if_true]
  rfl
theorem run_bounds2 {isS : Bool} {len cap l h : Nat} {lo lo' hi hi' : Option Value} (hlo : OR E lo lo') (hhi : OR E hi hi') (h1 : bound lo 0 = some l) (h2 : bound hi len = some h) (hl : l ≤ h) (hh : h ≤ cap) (w : World) :
    (Instr.sliceBounds isS len cap lo' hi' none).run P w = .ok (l, h, cap) w := by
  rcases bound_run hlo h1 with ⟨rfl, rfl⟩ | ⟨k, rfl⟩ <;> rcases bound_run hhi h2 with ⟨rfl, rfl⟩ | ⟨k2, rfl⟩ <;> simp only [Instr.sliceBounds, Sem.run_bind, Sem.run_pure, Result.andThen_ok, run_sliceBound hl, run_sliceBound hh, Option.isSome_none, Bool.false_eq_true, if_false]
theorem run_bounds3 {isS : Bool} {len cap l h m : Nat} {lo lo' hi' : Option Value} {hv mv mv' : Value} (hlo : OR E lo lo') (hhi : OR E (some hv) hi') (hmx : VR E mv mv') (h1 : bound lo 0 = some l) (h2 : natOf hv = some h) (h3 : natOf mv = some m) (hl : l ≤ h) (hh : h ≤ m) (hm : m ≤ cap) (w : World) :
    (Instr.sliceBounds isS len cap lo' hi' (some mv')).run P w = .ok (l, h, m) w := by
  obtain ⟨k3, rfl⟩ := natOf_some h3
  obtain rfl := hmx.int_inv
  rcases bound_run hhi (show bound (some hv) 0 = some h from h2) with ⟨e, _⟩ | ⟨k2, rfl⟩
  · subst e; cases hhi
  rcases bound_run hlo h1 with ⟨rfl, rfl⟩ | ⟨k, rfl⟩ <;> simp only [Instr.sliceBounds, Sem.run_bind, Sem.run_pure, Result.andThen_ok, run_sliceBound hl, run_sliceBound hh, run_sliceBound hm, Option.isSome_some, if_true]
theorem mkSl_eq (b o n c : Nat) : mkSl b o n c = some (.slice (some ⟨b, o, none⟩) n c) := by
  unfold mkSl; rw [fN_eq, fN_eq, fN_eq]
theorem least_sure (c es : Nat) : capSure (least c es) = false := by
  unfold capSure least
  have : Nat.mod (Nat.mul 2 (Nat.add c (Nat.mul 18446744073709551616 es))) 2 = 0 := by show (2 * (c + 18446744073709551616 * es)) % 2 = 0; omega
  rw [this]; rfl
theorem least_half (c es : Nat) : Nat.div (least c es) 2 = c + 18446744073709551616 * es := by
  show (2 * (c + 18446744073709551616 * es)) / 2 = _; omega
theorem capOf_least {c : Nat} (es : Nat) (h : c < 2 ^ 64) : capOf (least c es) = c := by
  unfold capOf
  rw [least_sure, least_half]
  show (c + 18446744073709551616 * es) % 18446744073709551616 = c
  omega
theorem esOf_least {c : Nat} (es : Nat) (h : c < 2 ^ 64) : esOf (least c es) = es := by
  unfold esOf
  rw [least_half]
  show (c + 18446744073709551616 * es) / 18446744073709551616 = es
  omega
theorem capOf_lt {c : Nat} (h : capSure c = false) : capOf c < 2 ^ 64 := by
  unfold capOf
  rw [h]
  exact Nat.mod_lt _ (by decide)
theorem and3 {a b c : Bool} (h : (a && b && c) = true) : a = true ∧ b = true ∧ c = true := by simp only [Bool.and_eq_true] at h; exact ⟨h.1.1, h.1.2, h.2⟩
/-- A part of a list. -/
theorem slice2_sound {size b off n c l h : Nat} {v v' : Value} (hv : VR E (.slice (some ⟨b, off, none⟩) n c) v') (hs : slice2 size b off c l h = some v) :
    ∃ c', v' = .slice (some ⟨E.ι b, E.sh b + off, none⟩) n c' ∧ l ≤ h ∧ h ≤ c' ∧ VR E v (.slice (some (if c' = l then ⟨E.ι b, E.sh b + off, none⟩ else ⟨E.ι b, E.sh b + off + l * size, none⟩)) (h - l) (c' - l)) := by
  obtain ⟨hb, c', rfl, hc, hcase⟩ := hv.sl_inv
  unfold slice2 at hs
  cases e : (Nat.ble l h && Nat.ble h (capOf c)) with
  | false => rw [e] at hs; cases hs
  | true =>
    rw [e] at hs
    simp only [Bool.and_eq_true] at e
    have hlh := Nat.le_of_ble_eq_true e.1
    have hhc := Nat.le_of_ble_eq_true e.2
    refine ⟨c', rfl, hlh, Nat.le_trans hhc hc, ?_⟩
    simp only [cond] at hs
    rcases hcase with ⟨hsu, hcs, hcc⟩ | ⟨hsu, hsz⟩
    · rw [hsu] at hs
      simp only [hcc] at hs
      cases e2 : Nat.beq c' l with
      | true =>
        rw [e2] at hs
        simp only [mkSl_eq, Option.some.injEq] at hs
        subst hs
        rw [if_pos (Nat.eq_of_beq_eq_true e2)]
        exact .slS b off (h - l) (c' - l) hb
      | false =>
        rw [e2] at hs
        simp only [mkSl_eq, Option.some.injEq] at hs
        subst hs
        rw [if_neg (fun e3 => by subst e3; rw [Nat.beq_refl] at e2; cases e2), Nat.add_assoc]
        exact .slS b (off + l * size) (h - l) (c' - l) hb
    · rw [hsu] at hs
      simp only at hs
      cases e2 : Nat.beq l 0 with
      | true =>
        rw [e2] at hs
        simp only [mkSl_eq, Option.some.injEq] at hs
        subst hs
        have : l = 0 := Nat.eq_of_beq_eq_true e2
        subst this
        simp only [Nat.zero_mul, Nat.add_zero, ite_self, Nat.sub_zero]
        exact .slM b off h c c' hb hsu hc hsz
      | false =>
        rw [e2] at hs
        simp only at hs
        cases e3 : Nat.blt l (capOf c) with
        | true =>
          rw [e3] at hs
          simp only at hs
          cases e4 : Nat.beq (esOf c) size with
          | false => rw [e4] at hs; cases hs
          | true =>
            rw [e4] at hs
            simp only [mkSl_eq, Option.some.injEq] at hs
            subst hs
            have hes := Nat.eq_of_beq_eq_true e4
            have hl : l < capOf c := Nat.le_of_ble_eq_true e3
            have hlt : capOf c - l < 2 ^ 64 := by have := capOf_lt hsu; omega
            rw [if_neg (by omega), Nat.add_assoc]
            refine .slM b (off + l * size) (h - l) (least (capOf c - l) size) (c' - l) hb (least_sure _ _) ?_ ?_
            · rw [capOf_least _ hlt]; omega
            · rw [esOf_least _ hlt]
              rw [hes] at hsz
              have : (c' - l) * size + l * size = c' * size := by rw [← Nat.add_mul]; congr 1; omega
              omega
        | false =>
          rw [e3] at hs
          cases hs
          have hl : ¬ l < capOf c := fun hh => by
            have := Nat.ble_eq_true_of_le (show l + 1 ≤ capOf c from hh)
            rw [show Nat.ble (l + 1) (capOf c) = Nat.blt l (capOf c) from rfl, e3] at this; cases this
          rw [show h - l = 0 by omega]
          exact .slV b 0 _ _
theorem slice3_sound {size b off n c l h m : Nat} {v v' : Value} (hv : VR E (.slice (some ⟨b, off, none⟩) n c) v') (hs : slice3 size b off c l h m = some v) :
    ∃ c', v' = .slice (some ⟨E.ι b, E.sh b + off, none⟩) n c' ∧ l ≤ h ∧ h ≤ m ∧ m ≤ c' ∧ VR E v (.slice (some (if m = l then ⟨E.ι b, E.sh b + off, none⟩ else ⟨E.ι b, E.sh b + off + l * size, none⟩)) (h - l) (m - l)) := by
  obtain ⟨hb, c', rfl, hc, hcase⟩ := hv.sl_inv
  unfold slice3 at hs
  cases e : (Nat.ble l h && Nat.ble h m && Nat.ble m (capOf c)) with
  | false => rw [e] at hs; cases hs
  | true =>
    rw [e] at hs
    simp only [Bool.and_eq_true] at e
    have h1 := Nat.le_of_ble_eq_true e.1.1
    have h2 := Nat.le_of_ble_eq_true e.1.2
    have h3 := Nat.le_of_ble_eq_true e.2
    refine ⟨c', rfl, h1, h2, Nat.le_trans h3 hc, ?_⟩
    simp only [cond] at hs
    cases e2 : Nat.beq m l with
    | true =>
      rw [e2] at hs
      simp only [mkSl_eq, Option.some.injEq] at hs
      subst hs
      rw [if_pos (Nat.eq_of_beq_eq_true e2)]
      exact .slS b off (h - l) (m - l) hb
    | false =>
      rw [e2] at hs
      simp only [mkSl_eq, Option.some.injEq] at hs
      subst hs
      rw [if_neg (fun e3 => by subst e3; rw [Nat.beq_refl] at e2; cases e2), Nat.add_assoc]
      exact .slS b (off + l * size) (h - l) (m - l) hb
/-- What a part of a row is: the model's three numbers, and the place. -/
theorem sliceRow_sound {isS : Bool} {size b off n c : Nat} {lo lo' hi hi' mx mx' : Option Value} {v v' : Value} (hv : VR E (.slice (some ⟨b, off, none⟩) n c) v') (hlo : OR E lo lo') (hhi : OR E hi hi') (hmx : OR E mx mx')
    (hs : sliceRow size b off n c lo hi mx = some v) :
    ∃ c' l h m, v' = .slice (some ⟨E.ι b, E.sh b + off, none⟩) n c' ∧ (∀ w, (Instr.sliceBounds isS n c' lo' hi' mx').run P w = .ok (l, h, m) w) ∧
      VR E v (.slice (some (if m = l then ⟨E.ι b, E.sh b + off, none⟩ else ⟨E.ι b, E.sh b + off + l * size, none⟩)) (h - l) (m - l)) := by
  unfold sliceRow at hs
  split at hs
  · rename_i l h h1 h2
    cases hmx
    obtain ⟨c', k1, k2, k3, k4⟩ := slice2_sound hv hs
    exact ⟨c', l, h, c', k1, fun w => run_bounds2 hlo hhi h1 h2 k2 k3 w, k4⟩
  · rename_i l h m h1 h2
    cases hm : natOf m with
    | none => rw [hm] at hs; cases hs
    | some m' =>
      rw [hm] at hs
      cases hi with
      | none => cases hs
      | some hv' =>
        cases hmx with
        | some _ mv' hmv =>
          obtain ⟨c', k1, k2, k3, k4, k5⟩ := slice3_sound hv hs
          exact ⟨c', l, h, m', k1, fun w => run_bounds3 hlo hhi hmv h1 h2 hm k2 k3 k4 w, k5⟩
  · cases hs
theorem natO_eq {o o' : Option Value} (h : OR E o o') (hn : natO o = true) : o' = o := by
  cases h with
  | none => rfl
  | some v v' hv =>
    obtain ⟨n, e⟩ := Option.isSome_iff_exists.1 (show (natOf v).isSome = true from hn)
    obtain ⟨k, rfl⟩ := natOf_some e
    rw [hv.int_inv]
theorem xArr_sound (t : TypeId) {a a' : Value} (ha : VR E a a') : PuY P E (fun s => xArr P t a s) (Instr.arrayAt t a') := by
  unfold xArr
  split
  · rename_i n e b off len c hu
    obtain ⟨hb, c', rfl, -, -⟩ := ha.sl_inv
    cases h : Nat.ble n len with
    | false => exact .no fun _ => rfl
    | true =>
      have hn : ¬ len < n := by have := Nat.le_of_ble_eq_true h; omega
      refine .yes (fun s => okPt_eq b _ s) (.ptr b _ hb) fun w => ?_
      simp only [Instr.arrayAt, Sem.run_bind, run_underlying hu, Result.andThen_ok, hn, if_false, Sem.run_pure]
  · exact .no fun _ => rfl
theorem xSlice_sound (t : TypeId) {a a' : Value} {lo lo' hi hi' mx mx' : Option Value} (ha : VR E a a') (hlo : OR E lo lo') (hhi : OR E hi hi') (hmx : OR E mx mx') :
    PuY P E (fun s => xSlice P t a lo hi mx s) (Instr.sliceAt t a' lo' hi' mx') := by
  unfold xSlice
  split
  · rename_i n e b off hu
    obtain ⟨hb, rfl⟩ := ha.ptr_inv
    split
    · rename_i size hs
      refine PuY.ofO fun v hv => ?_
      obtain ⟨c', l, h, m, k1, k2, k3⟩ := sliceRow_sound (P := P) (isS := false) (VR.slS (E := E) b off n n hb) hlo hhi hmx hv
      cases k1
      refine ⟨_, k3, fun w => ?_⟩
      simp only [Instr.sliceAt, Sem.run_bind, run_underlying hu, Result.andThen_ok, Instr.sureAddr, Sem.run_pure, k2 w, run_sizeOf w hs, add_eq]
    · exact .no fun _ => rfl
  · rename_i e b off len c hu
    split
    · rename_i size hs
      refine PuY.ofO fun v hv => ?_
      obtain ⟨c', l, h, m, rfl, k2, k3⟩ := sliceRow_sound (P := P) (isS := true) ha hlo hhi hmx hv
      refine ⟨_, k3, fun w => ?_⟩
      simp only [Instr.sliceAt, Sem.run_bind, run_underlying hu, Result.andThen_ok, Instr.slice, Sem.run_pure, k2 w, run_sizeOf w hs]
      congr 2
      split
      · rfl
      · simp [add_eq]
    · exact .no fun _ => rfl
  · rename_i e len c hu
    cases e : (natO lo && natO hi && natO mx) with
    | false => exact .no fun _ => rfl
    | true =>
      obtain ⟨e1, e2, e3⟩ := and3 e
      obtain rfl := natO_eq hlo e1
      obtain rfl := natO_eq hhi e2
      obtain rfl := natO_eq hmx e3
      obtain rfl := plain_eq 1 _ _ rfl ha
      refine PuY.ofPure fun v hv w => ?_
      have := pureRun_run hv w
      simp only [Instr.sliceAt, Sem.run_bind, run_underlying hu, Result.andThen_ok]
      exact this
  · rename_i u hu
    cases e : (natO lo && natO hi && natO mx) with
    | false => exact .no fun _ => rfl
    | true =>
      obtain ⟨e1, e2, e3⟩ := and3 e
      obtain rfl := natO_eq hlo e1
      obtain rfl := natO_eq hhi e2
      obtain rfl := natO_eq hmx e3
      obtain rfl := ha.str_inv
      refine PuY.ofPure fun v hv w => ?_
      have := pureRun_run hv w
      simp only [Instr.sliceAt, Sem.run_bind, run_underlying hu, Result.andThen_ok]
      exact this
  · exact .no fun _ => rfl
/-! ### Built values -/
theorem cellsL_sound {v v' : Value} {cs : List Value} (h : VR E v v') (hc : cellsL v = some cs) : VRs E cs v'.cells.toList := by
  unfold cellsL at hc
  split at hc
  · cases hc
    obtain ⟨l', rfl, hl⟩ := h.agg_inv
    exact hl
  · cases hc
  · cases hc
  · rename_i h1 h2 h3
    rw [fV_eq] at hc
    cases hc
    have : v'.cells = #[v'] := by
      cases h <;> first | rfl | (exfalso; exact h1 _ rfl) | (exfalso; exact h2 _ rfl) | (exfalso; exact h3 _ rfl)
    rw [this]
    exact .cons _ _ _ _ h .nil
theorem fold_lay : ∀ (vs : List Value) (c : Array Value) (o i : Nat), (vs.zipIdx i).foldl (fun cs (p : Value × Nat) => cs.setIfInBounds (o + p.2) p.1) c = lay c (o + i) vs
  | [], c, o, i => rfl
  | v :: vs, c, o, i => by
    rw [List.zipIdx_cons, List.foldl_cons, lay, fold_lay vs _ o (i + 1)]
    rfl
theorem fill_step {place : Nat → Option (Nat × Nat)} {cells : Array Value} {i : Nat} {v : Value} {rest : List (Nat × Value)} {off n : Nat} (hp : place i = some (off, n)) (hn : v.cells.size = n) (hb : off + n ≤ cells.size) :
    Instr.fill place cells ((i, v) :: rest) = Instr.fill place (lay cells off v.cells.toList) rest := by
  rw [Instr.fill, hp]
  simp only
  rw [if_neg (by simp [hn]; omega)]
  congr 1
  have := fold_lay v.cells.toList cells off 0
  rw [Nat.add_zero] at this
  rw [← this, ← Array.foldl_toList]
  simp
theorem lay_toList (c : Array Value) (o : Nat) (vs : List Value) (h : o + vs.length ≤ c.size) : (lay c o vs).toList = c.toList.take o ++ (vs ++ c.toList.drop (o + vs.length)) := by
  apply List.ext_getElem?
  intro i
  rw [Array.getElem?_toList, lay_get _ _ _ _ h, List.getElem?_append, List.getElem?_append]
  simp only [List.length_take, Array.length_toList, Nat.min_eq_left (show o ≤ c.size by omega), List.getElem?_take, List.getElem?_drop, Array.getElem?_toList]
  by_cases h1 : i < o
  · rw [if_neg (by omega), if_pos h1, if_pos h1]
  · rw [if_neg h1]
    by_cases h2 : i < o + vs.length
    · rw [if_pos (by omega), if_pos (by omega)]
    · rw [if_neg (by omega), if_neg (by omega)]
      congr 1
      omega
theorem fillP_sound {tm : Tr Value} {ρ : Operand → Value} {pl : Nat → Option (Nat × Nat)} : ∀ (ps : List (Nat × Operand)) (_ : ∀ x ∈ ps.map (·.2), VR E (opd tm x) (ρ x)) (cs r cs' : List Value), VRs E cs cs' → fillP pl tm ps cs = some r →
    ∃ r', VRs E r r' ∧ r'.length = cs'.length ∧ Instr.fill pl ⟨cs'⟩ (ps.map fun (i, x) => (i, ρ x)) = some ⟨r'⟩
  | [], _, cs, r, cs', hc, h => by cases h; exact ⟨cs', hc, rfl, rfl⟩
  | (i, x) :: ps, hρ, cs, r, cs', hc, h => by
    unfold fillP at h
    split at h
    · cases h
    · rename_i off n hp
      split at h
      · cases h
      · rename_i vs hvs
        cases e : Nat.beq vs.length n with
        | false => rw [e] at h; cases h
        | true =>
          rw [e] at h
          simp only [cond] at h
          split at h
          · rename_i cs2 hsp
            obtain ⟨h1, rfl, _⟩ := splice_some hsp
            have hn := Nat.eq_of_beq_eq_true e
            have hv := cellsL_sound (hρ x (by simp)) hvs
            have hlen := hv.length
            have hcl := hc.length
            have hsz : (ρ x).cells.size = n := by rw [← Array.length_toList, ← hlen, hn]
            have hb : off + n ≤ (⟨cs'⟩ : Array Value).size := by show off + n ≤ cs'.length; omega
            obtain ⟨r', k1, k2, k3⟩ := fillP_sound ps (fun y hy => hρ y (by simp only [List.map_cons, List.mem_cons]; exact .inr hy)) _ r ((lay ⟨cs'⟩ off (ρ x).cells.toList).toList) (by
              rw [lay_toList _ _ _ (by rw [Array.length_toList, hsz]; exact hb), ← hlen]
              exact (hc.take off).append (hv.append (hc.drop _))) h
            refine ⟨r', k1, by rw [k2, Array.length_toList, lay_size]; rfl, ?_⟩
            rw [List.map_cons, fill_step hp hsz hb]
            exact k3
          · cases h
end
end Go.Ev
