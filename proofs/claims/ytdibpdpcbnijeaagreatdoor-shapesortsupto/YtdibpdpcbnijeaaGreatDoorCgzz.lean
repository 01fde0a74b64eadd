import Derived.Test.YtdibpdpcbnijeaaGreatDoorCkzz
import Derived.Test.YtdibpdpcbnijeaaGreatDoorCtzz
import Derived.Test.YtdibpdpcbnijeaaGreatDoorWslzz
/-
  Changes: cairnref14.MayChange, shape.mayBe; entries that are a map's: cairnref14.Right, shape.isMap.
-/
namespace Go.Proofs.YtdibpdpcbnijeaaGreatDoor
open Go Go.Ev Go.Sy
set_option maxRecDepth 100000
variable {s s0 : St} {q : Option Addr} {c : Nat}
theorem Xv.eqB {X : Fx} {env : Env} {s : St} {t t' : TypeId} {x y : Operand} {a b : Bool} (hx : ev env x = some (.bool a)) (hy : ev env y = some (.bool b)) (ht : X.P.underlying t = some .bool) : Xv X (.binOp .eql t x y t') env s (.bool (decide (a = b))) s := fun tm hf => by
  show xBin X.P .eql t x y (opd tm x) (opd tm y) s = _
  rw [ev_opd hf hx, ev_opd hf hy]
  show eqA X.P .eql t x y (.bool a) (.bool b) s = _
  have h1 : pureRun X.P (Op.equal t (.bool a) (.bool b)) = some (a == b) := by
    show pureRun X.P (underlying t >>= _) = _
    rw [Go.Sy.pureRun_bind, pureRun_und ht]; rfl
  have h2 : pureRun X.P (do eqGuard .eql t x y (.bool a) (.bool b); binOp .eql t (.bool a) (.bool b)) = some (.bool (a == b)) := by
    show pureRun X.P (Op.equal t (.bool a) (.bool b) >>= fun r => pure (Value.bool r)) = _
    rw [Go.Sy.pureRun_bind, h1]; rfl
  have h3 : eqNil (some .bool) (.bool a) (.bool b) = none := rfl
  unfold eqA
  simp only [ht, h3]
  show ofPure X.P _ s = _
  unfold ofPure
  rw [h2]
  cases a <;> cases b <;> rfl
/-- A change that may be. -/
def May (K V : List Nat) (g : Bool) : Prop := K.length ≤ 32 ∧ V.length ≤ 256 ∧ (g = true ↔ V.length = 0)
instance (K V : List Nat) (g : Bool) : Decidable (May K V g) := inferInstanceAs (Decidable (_ ∧ _ ∧ (_ ↔ _)))
section
variable {K V : List Nat} {qk qv : Option Addr} {ck cv : Nat} {g : Bool}
theorem rmay_ok (_w : Wf s) (_hK : K.length < 2 ^ 60) (_hV : V.length < 2 ^ 60) :
    Cl B (.call 24 [.agg ⟨[.slice qk K.length ck, .slice qv V.length cv, .bool g]⟩]) s fun v s' => v = .bool (decide (May K V g)) ∧ Kn s s' := by
  refine Cl.enter Tryz.f24 fn24 rfl rfl rfl ?_
  have g1 : good (some (⟨s.nx, 0, none⟩ : Addr)) := ⟨_, _, rfl⟩
  have l0 : ldq (mkRow s [.slice qk K.length ck, .slice qv V.length cv, .bool g]) (qadd (some ⟨s.nx, 0, none⟩) 0) = some (.slice qk K.length ck) := At.ld mkRow_sl.at (i := 0) (by simp)
  have l1 : ldq (mkRow s [.slice qk K.length ck, .slice qv V.length cv, .bool g]) (qadd (some ⟨s.nx, 0, none⟩) 1) = some (.slice qv V.length cv) := At.ld mkRow_sl.at (i := 1) (by simp)
  have l2 : ldq (mkRow s [.slice qk K.length ck, .slice qv V.length cv, .bool g]) (qadd (some ⟨s.nx, 0, none⟩) 2) = some (.bool g) := At.ld mkRow_sl.at (i := 2) (by simp)
  by_cases h1 : K.length ≤ 32
  · by_cases h2 : V.length ≤ 256
    · refine run1 ?_
      refine Wo.val (gT rfl h2) (Xv.eqB rfl rfl (B.un (t := 4) rfl)) rfl ?_
      refine run1 ?_
      refine Lv.ret rfl ⟨congrArg Value.bool (decide_eq_decide.2 ?_), mkRow_kn⟩
      constructor
      · intro h
        refine ⟨h1, h2, ?_⟩
        rw [h]; simp
      · rintro ⟨_, _, h⟩
        cases g with
        | true => simp at h; simp [h]
        | false => simp at h; simp [h]
    · refine run1 ?_
      exact Lv.ret rfl ⟨congrArg Value.bool (decide_eq_false fun h => h2 h.2.1).symm, mkRow_kn⟩
  · refine run1 ?_
    exact Lv.ret rfl ⟨congrArg Value.bool (decide_eq_false fun h => h1 h.1).symm, mkRow_kn⟩
theorem pmay_ok (_w : Wf s) (hK : K.length < 2 ^ 60) (hV : V.length < 2 ^ 60) :
    Cl B (.call 26 [.agg ⟨[.slice qk K.length ck, .slice qv V.length cv, .bool g]⟩]) s fun v s' => v = .bool (decide (May K V g)) ∧ Kn s s' := by
  refine Cl.enter Tryz.f26 fn26 rfl rfl rfl ?_
  have g1 : good (some (⟨s.nx, 0, none⟩ : Addr)) := ⟨_, _, rfl⟩
  have l0 : ldq (mkRow s [.slice qk K.length ck, .slice qv V.length cv, .bool g]) (qadd (some ⟨s.nx, 0, none⟩) 0) = some (.slice qk K.length ck) := At.ld mkRow_sl.at (i := 0) (by simp)
  have l1 : ldq (mkRow s [.slice qk K.length ck, .slice qv V.length cv, .bool g]) (qadd (some ⟨s.nx, 0, none⟩) 1) = some (.slice qv V.length cv) := At.ld mkRow_sl.at (i := 1) (by simp)
  have l2 : ldq (mkRow s [.slice qk K.length ck, .slice qv V.length cv, .bool g]) (qadd (some ⟨s.nx, 0, none⟩) 2) = some (.bool g) := At.ld mkRow_sl.at (i := 2) (by simp)
  by_cases h1 : 32 < K.length
  · refine run1 ?_
    exact Lv.ret rfl ⟨congrArg Value.bool (decide_eq_false fun h => by have := h.1; omega).symm, mkRow_kn⟩
  · cases g with
    | true =>
      refine run1 ?_
      refine Lv.ret rfl ⟨congrArg Value.bool (decide_eq_decide.2 ?_), mkRow_kn⟩
      unfold May
      simp only [true_iff]
      exact ⟨fun h => ⟨by omega, by omega, h⟩, fun h => h.2.2⟩
    | false =>
      by_cases h2 : 0 < V.length
      · refine run1 ?_
        refine Lv.ret rfl ⟨congrArg Value.bool (decide_eq_decide.2 ?_), mkRow_kn⟩
        unfold May
        exact ⟨fun h => ⟨by omega, h, ⟨(fun e => by cases e), (fun e => by omega)⟩⟩, fun h => h.2.1⟩
      · refine run1 ?_
        refine Lv.ret rfl ⟨congrArg Value.bool (decide_eq_false fun h => ?_).symm, mkRow_kn⟩
        have := h.2.2.2 (by omega)
        cases this
end
/-- Entries that are a map's. -/
def Rgt (E : List Ety) : Prop := (∀ x ∈ E, x.1.length ≤ 32 ∧ 1 ≤ x.2.length ∧ x.2.length ≤ 256) ∧ SS E
theorem rgt_snoc {D : List Ety} {x : Ety} (h : Rgt D) (hx : x.1.length ≤ 32 ∧ 1 ≤ x.2.length ∧ x.2.length ≤ 256) (hp : ∀ y, D.getLast? = some y → Lt y.1 x.1) : Rgt (D ++ [x]) := by
  refine ⟨fun y hy => ?_, List.pairwise_append.2 ⟨h.2, List.pairwise_singleton _ _, fun y hy z hz => ?_⟩⟩
  · rcases List.mem_append.1 hy with hy | hy
    · exact h.1 y hy
    · rw [List.mem_singleton] at hy; subst hy; exact hx
  · rw [List.mem_singleton] at hz; subst hz
    by_cases hD : D = []
    · subst hD; simp at hy
    · obtain ⟨D', d, rfl⟩ : ∃ D' d, D = D' ++ [d] := ⟨D.dropLast, D.getLast hD, (List.dropLast_concat_getLast _).symm⟩
      have hl := hp d (by simp)
      rcases List.mem_append.1 hy with hy' | hy'
      · exact ((List.pairwise_append.1 h.2).2.2 y hy' d (by simp)).trans hl
      · rw [List.mem_singleton] at hy'; subst hy'; exact hl
theorem Rgt.left {D R : List Ety} (h : Rgt (D ++ R)) : Rgt D := ⟨fun x hx => h.1 x (List.mem_append_left _ hx), (List.pairwise_append.1 h.2).1⟩
theorem rgt_last {E : List Ety} {i : Nat} {x y : Ety} (h : Rgt E) (hx : E[i]? = some x) (hy : E[i + 1]? = some y) : Lt x.1 y.1 := by
  have hi : i + 1 < E.length := (List.getElem?_eq_some_iff.1 hy).1
  have := List.pairwise_iff_getElem.1 h.2 i (i + 1) (by omega) hi (by omega)
  rw [List.getElem?_eq_getElem (by omega)] at hx hy
  cases hx; cases hy; exact this
theorem rright_ok {cs : List Value} {E : List Ety} (ha : At s q cs) (he : Ent s cs E) (hE : E.length < 2 ^ 60) :
    Cl B (.call 23 [.slice q E.length c]) s fun v s' => (∃ b : Bool, v = .bool b ∧ (b = true ↔ Rgt E)) ∧ s' = s := by
  refine Cl.enter Tryz.f23 fn23 rfl rfl rfl ?_
  refine run1 ?_
  refine W.loop (α := Nat) (fun i => [(0, .slice q E.length c), (3, nI i)]) (fun _ => []) (fun _ => s)
    (fun i => i ≤ E.length ∧ Rgt (E.take i)) (fun i => E.length - i) 0 ⟨Nat.zero_le _, by simp [Rgt, SS]⟩ (.cons rfl (.cons rfl .nil)) rfl rfl (by omega) ?_
  rintro i ⟨k1, k2⟩
  by_cases hi : i < E.length
  · obtain ⟨x, hx⟩ := at_lt hi
    obtain ⟨g1, q1, c1, q2, c2, l1, l2, b1, b2, m1, m2⟩ := he.ld ha hi
    have ek : key E i = x.1 := by unfold key; rw [List.getD_eq_getElem?_getD, hx]; rfl
    have ev' : val E i = x.2 := by unfold val; rw [List.getD_eq_getElem?_getD, hx]; rfl
    rw [ek] at l1 b1 m1
    rw [ev'] at l2 b2 m2
    by_cases h1 : 32 < x.1.length
    · refine run1 ?_
      exact Lv.ret rfl ⟨⟨false, rfl, by simp; intro h; have := (h.1 x (List.mem_of_getElem? hx)).1; omega⟩, rfl⟩
    · by_cases h2 : x.2.length < 1
      · refine run1 ?_
        exact Lv.ret rfl ⟨⟨false, rfl, by simp; intro h; have := (h.1 x (List.mem_of_getElem? hx)).2.1; omega⟩, rfl⟩
      · by_cases h3 : 256 < x.2.length
        · refine run1 ?_
          exact Lv.ret rfl ⟨⟨false, rfl, by simp; intro h; have := (h.1 x (List.mem_of_getElem? hx)).2.2; omega⟩, rfl⟩
        · have hxok : x.1.length ≤ 32 ∧ 1 ≤ x.2.length ∧ x.2.length ≤ 256 := ⟨by omega, by omega, by omega⟩
          have e2 := (take_at hx).2.1
          refine run1 ?_
          refine W.dr [(0, .none, 0), (1, .none, 1), (2, .none, 3), (3, .none, 7), (4, .none, 7), (5, .none, 23), (6, .none, 63), (7, .none, 127), (8, .reads, 255), (9, .none, 7), (10, .none, 7), (11, .none, 1543), (12, .none, 3591), (13, .reads, 7687), (14, .acts, 16383), (15, .none, 32767), (16, .none, 65535)] (by kernel_rfl) rfl ?_
          by_cases h0 : 0 < i
          · obtain ⟨y, hy⟩ := at_lt (l := E) (k := i - 1) (by omega)
            obtain ⟨_, q3, c3, _, _, l3, _, b3, _, m3, _⟩ := he.ld ha (i := i - 1) (by omega)
            have ek3 : key E (i - 1) = y.1 := by unfold key; rw [List.getD_eq_getElem?_getD, hy]; rfl
            rw [ek3] at l3 b3 m3
            refine run1 ?_
            refine Wd.call (gT rfl h0) (Xc.call ok34 rfl) rfl ((rcompare_ok b3 b1 m3 m1).mono ?_)
            rintro v s' ⟨rfl, rfl⟩
            refine ⟨Nat.le_refl _, ?_⟩
            by_cases hc : Int.ofNat 0 ≤ cmp y.1 x.1
            · refine run1 ?_
              refine Lv.ret rfl ⟨⟨false, rfl, by simp; intro h; have h' := rgt_last h hy (by rw [show i - 1 + 1 = i by omega]; exact hx); unfold Lt at h'; have : (0 : Int) ≤ cmp y.1 x.1 := hc; omega⟩, rfl⟩
            · refine run1 ?_
              refine rnd.n (i + 1) ⟨hi, ?_⟩ (by omega) (.cons rfl (.cons rfl .nil)) rfl rfl
              rw [e2]
              refine rgt_snoc k2 hxok fun z hz => ?_
              have : (E.take i).getLast? = some y := by
                have e3 := (take_at hy).2.1
                rw [show i - 1 + 1 = i by omega] at e3
                rw [e3]; simp
              rw [this] at hz; cases hz
              have : ¬ ((0 : Int) ≤ cmp y.1 x.1) := hc
              unfold Lt; omega
          · refine run1 ?_
            refine rnd.n (i + 1) ⟨hi, ?_⟩ (by omega) (.cons rfl (.cons rfl .nil)) rfl rfl
            rw [e2]
            have : i = 0 := by omega
            subst this
            exact rgt_snoc k2 hxok fun z hz => by simp at hz
  · refine run1 ?_
    have : E.take i = E := List.take_of_length_le (by omega)
    rw [this] at k2
    exact Lv.ret rfl ⟨⟨true, rfl, by simp [k2]⟩, rfl⟩
theorem ismap_ok {l : List El} (w : Wf s) (ha : At s q (cel l)) (hk : ∀ x ∈ l, BsV s x.1.1 x.2.1 ∧ BsV s x.1.2 x.2.2) (hE : l.length < 2 ^ 60) :
    Cl B (.call 25 [.slice q l.length c]) s fun v s' => (∃ b : Bool, v = .bool b ∧ (b = true ↔ Rgt (l.map Prod.snd))) ∧ Kn s s' := by
  refine Cl.enter Tryz.f25 fn25 rfl rfl rfl ?_
  refine run1 ?_
  refine W.loop (α := Nat × St) (fun p => [(0, .slice q l.length c), (5, .slice q l.length c), (6, nI l.length), (7, nI p.1)]) (fun _ => []) (fun p => p.2)
    (fun p => p.1 ≤ l.length ∧ Kn s p.2 ∧ Rgt ((l.take p.1).map Prod.snd)) (fun p => l.length - p.1) (0, s) ⟨Nat.zero_le _, .refl, by simp [Rgt, SS]⟩ (.cons rfl (.cons rfl (.cons rfl (.cons rfl .nil)))) rfl rfl (by show l.length - 0 < _; omega) ?_
  rintro ⟨i, s1⟩ ⟨k1, k2, k3⟩
  dsimp only at k1 k2 k3 ⊢
  have w1 := k2.wf w
  by_cases hi : i < l.length
  · obtain ⟨x, hx⟩ := at_lt hi
    have hmx : (l.map Prod.snd)[i]? = some x.2 := by rw [List.getElem?_map, hx]; rfl
    have ha1 := ha.kn w k2
    have d1 : ldn s1 (qadd q (i * 2)) 2 = some [x.1.1, x.1.2] := by rw [At.ldn ha1 (by rw [cel_length]; omega) (by decide), cel_get hx]
    have gq : good q := At.good ha1 (i := i * 2) (by rw [cel_length]; omega)
    obtain ⟨⟨qa, ca, ea, ba, na⟩, ⟨qb, cb, eb, bb, nb⟩⟩ := hk x (List.mem_of_getElem? hx)
    rw [ea, eb] at d1
    refine run1 ?_
    refine Wo.st rfl rfl rfl rfl rfl rfl rfl (by intro v hv; simp only [List.mem_cons, List.not_mem_nil, or_false] at hv; rcases hv with rfl | rfl <;> rfl) mkRow_rw (by decide) ?_
    intro s2 j1 j2 j3
    have kn2 : Kn s1 s2 := Kn.app mkRow_kn j3 (Nat.le_refl _)
    have w2 := kn2.wf w1
    have kn02 : Kn s s2 := k2.trans kn2
    have R2 : Rw s2 s1.nx [.slice qa x.2.1.length ca, .slice qb x.2.2.length cb] s1.nx := j1
    have A2 : At s2 (some ⟨s1.nx, 0, none⟩) [.slice qa x.2.1.length ca, .slice qb x.2.2.length cb] := by have := (R2.sl (o := 0) (n := 2) (by simp)).at; exact this
    have dx : ldn s2 (some ⟨s1.nx, 0, none⟩) 2 = some [.slice qa x.2.1.length ca, .slice qb x.2.2.length cb] := A2.ldn (i := 0) (n := 2) (by simp) (by decide)
    have l1 : ldq s2 (qadd (some ⟨s1.nx, 0, none⟩) 0) = some (.slice qa x.2.1.length ca) := At.ld A2 (i := 0) (by simp)
    have l2 : ldq s2 (qadd (some ⟨s1.nx, 0, none⟩) 1) = some (.slice qb x.2.2.length cb) := At.ld A2 (i := 1) (by simp)
    have g2 : good (some (⟨s1.nx, 0, none⟩ : Addr)) := ⟨_, _, rfl⟩
    have hxE : x.2 ∈ l.map Prod.snd := List.mem_map_of_mem (List.mem_of_getElem? hx)
    by_cases h1 : 32 < x.2.1.length
    · refine run1 ?_
      exact Lv.ret rfl ⟨⟨false, rfl, by simp; intro h; have := (h.1 x.2 hxE).1; omega⟩, kn02⟩
    · by_cases h2 : x.2.2.length = 0
      · refine run1 ?_
        exact Lv.ret rfl ⟨⟨false, rfl, by simp; intro h; have := (h.1 x.2 hxE).2.1; omega⟩, kn02⟩
      · by_cases h3 : 256 < x.2.2.length
        · refine run1 ?_
          exact Lv.ret rfl ⟨⟨false, rfl, by simp; intro h; have := (h.1 x.2 hxE).2.2; omega⟩, kn02⟩
        · have hxok : x.2.1.length ≤ 32 ∧ 1 ≤ x.2.2.length ∧ x.2.2.length ≤ 256 := ⟨by omega, by omega, by omega⟩
          have e2 := (take_at hx).2.1
          refine run1 ?_
          refine W.dr [(0, .none, 0), (1, .none, 1), (2, .none, 3), (3, .none, 7), (4, .none, 7), (5, .none, 23), (6, .none, 63), (7, .reads, 127), (8, .reads, 7), (9, .acts, 511), (10, .none, 1023), (11, .none, 2047)] (by kernel_rfl) rfl ?_
          by_cases h0 : 0 < i
          · obtain ⟨y, hy⟩ := at_lt (l := l) (k := i - 1) (by omega)
            have ha2 := ha.kn w kn02
            have d3 : ldn s2 (qadd q ((i - 1) * 2)) 2 = some [y.1.1, y.1.2] := by rw [At.ldn ha2 (by rw [cel_length]; omega) (by decide), cel_get hy]
            obtain ⟨⟨qc, cc, ec, bc, nc⟩, ⟨qd, cd, ed, _, _⟩⟩ := hk y (List.mem_of_getElem? hy)
            rw [ec, ed] at d3
            refine run1 ?_
            refine Wd.read (gT rfl h0) (Xv.ldN rfl rfl rfl d3) rfl eqV_pair ⟨Xv.ldN rfl rfl rfl d3, trivial⟩ ?_
            refine Wd.read (gT rfl h0) (Xv.ldN rfl rfl rfl dx) rfl eqV_pair ⟨Xv.ldN rfl rfl rfl dx, trivial⟩ ?_
            refine Wd.call (gT rfl h0) (Xc.call ok18 rfl) rfl ((bykey_ok w2 (bc.kn w kn02) (ba.kn w kn02) nc na).mono ?_)
            rintro v s3 ⟨rfl, kn3⟩
            refine ⟨kn3.le, ?_⟩
            have kn03 : Kn s s3 := kn02.trans kn3
            by_cases hc : Int.ofNat 0 ≤ cmp y.2.1 x.2.1
            · refine run1 ?_
              refine Lv.ret rfl ⟨⟨false, rfl, by
                simp; intro h
                have h' := rgt_last (i := i - 1) (x := y.2) (y := x.2) h (by rw [List.getElem?_map, hy]; rfl) (by rw [show i - 1 + 1 = i by omega]; exact hmx)
                unfold Lt at h'; have : (0 : Int) ≤ cmp y.2.1 x.2.1 := hc; omega⟩, kn03⟩
            · refine run1 ?_
              refine rnd.n (i + 1, s3) ⟨hi, kn03, ?_⟩ (by show l.length - (i + 1) < l.length - i; omega) (.cons rfl (.cons rfl (.cons rfl (.cons rfl .nil)))) rfl rfl
              show Rgt ((l.take (i + 1)).map Prod.snd)
              rw [e2, List.map_append]
              refine rgt_snoc k3 hxok fun z hz => ?_
              have : ((l.take i).map Prod.snd).getLast? = some y.2 := by
                have e3 := (take_at hy).2.1
                rw [show i - 1 + 1 = i by omega] at e3
                rw [e3]; simp
              rw [this] at hz; cases hz
              have : ¬ ((0 : Int) ≤ cmp y.2.1 x.2.1) := hc
              unfold Lt; omega
          · refine run1 ?_
            refine rnd.n (i + 1, s2) ⟨hi, kn02, ?_⟩ (by show l.length - (i + 1) < l.length - i; omega) (.cons rfl (.cons rfl (.cons rfl (.cons rfl .nil)))) rfl rfl
            show Rgt ((l.take (i + 1)).map Prod.snd)
            rw [e2, List.map_append]
            have : i = 0 := by omega
            subst this
            exact rgt_snoc k3 hxok fun z hz => by simp at hz
  · refine run1 ?_
    have : l.take i = l := List.take_of_length_le (by omega)
    rw [this] at k3
    exact Lv.ret rfl ⟨⟨true, rfl, by simp [k3]⟩, k2⟩
end Go.Proofs.YtdibpdpcbnijeaaGreatDoor
