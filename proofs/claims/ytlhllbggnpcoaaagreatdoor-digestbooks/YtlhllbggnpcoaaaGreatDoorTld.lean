import Derived.Test.YtlhllbggnpcoaaaGreatDoorApt
import Derived.Test.YtlhllbggnpcoaaaGreatDoorSn2
/-
  cairnlaw04.told.
-/
namespace Go.Proofs.YtlhllbggnpcoaaaGreatDoor
open Go.RowKit Go.Sort Go.Maps

theorem pairsL_le {κ : List Nat → List Nat} {L : List (List Nat)} (hL : Ris L) : (pairsL κ L).length ≤ L.length := by
  have : Part κ L L.length 0 (pairsL κ L) := ⟨ris_pairsL hL, fun a b => ⟨fun q => ⟨q, Or.inl (by
    obtain ⟨m, hm, e⟩ := List.getElem_of_mem ((mem_pairsL hL).1 q).1
    exact ⟨m, hm, by rw [List.getElem?_eq_getElem hm, e]⟩)⟩, fun q => q.1⟩⟩
  exact this.le hL
theorem pairs_in {κ : List Nat → List Nat} {L : List (List Nat)} (hL : Ris L) {Q : List PR} (e : Q.map PR.ab = pairsL κ L) : ∀ q ∈ Q, q.a ∈ L ∧ q.b ∈ L := fun q hq => by
  have : q.ab ∈ pairsL κ L := by rw [← e]; exact List.mem_map.2 ⟨q, hq, rfl⟩
  have h := (mem_pairsL hL).1 this
  exact ⟨h.1, h.2.1⟩
theorem apart_any5 (w : World) (B : Nat) (al : Option Addr) (cl : Nat) (Us : List Value) (hl : w.ownsRow B 26 1 (.slice al Us.length cl) Us.length Us) (hs : ∀ u ∈ Us, ∃ s, Str w Any u s ∧ s.length ≤ 140737488351232) (sep : Us.Pairwise Sep) (hn : Us.length ≤ 274877906944) :
    Calls Tryz.prog 49 #[.slice al Us.length cl] w fun e w' => e = .returned (.bool true) ∧ Turn (Blk Us) w w' := by
  have h : ∀ r : Nat, ∃ s : List Nat, ∀ u, Us[r]? = some u → Str w Any u s ∧ s.length ≤ 140737488351232 := fun r => by
    cases e : Us[r]? with
    | none => exact ⟨[], fun u hu => by cases hu⟩
    | some u =>
      obtain ⟨s, hs⟩ := hs u (List.mem_of_getElem? e)
      exact ⟨s, fun u' hu' => by have := Option.some.inj hu'; subst this; exact hs⟩
  obtain ⟨M0, hM⟩ := Classical.axiomOfChoice h
  exact apart_any4 w B al cl Us M0 hl (fun r u hu => (hM r u hu).1) sep (fun r hr => (hM r _ (List.getElem?_eq_getElem hr)).2) hn

/-- slices appended to a list that is the call's own -/
theorem wpList_append_all {w : World} {ops : Array Oper} {rest : List Oper} {o : Oper} {a : Act} {Q : Exit → Act → World → Prop} (hgd : o.guard = none) (s x : Operand)
    (ho : o.op = .call { callee := .builtin .append, args := #[s, x], argTypes := #[71, 71] }) (base : Nat) (v : Value) (k : Nat) (xs : List Value) (hs : a.eval s = v) (hown : w.ownsRow base 26 1 v k xs)
    (sa : Option Addr) (n c : Nat) (news : List Value) (hx : a.eval x = .slice sa n c) (hl : news.length = n) (hnil : sa = none → n = 0 ∧ c = 0) (hc : ∀ ad, sa = some ad → ∀ j u, news[j]? = some u → w.cell? (ad.add j) = some u) (h1 : ∀ u ∈ news, u.oneCell' = true) (hk : k + n ≤ 549755813888) (hbase : base ≤ w.heap.size)
    (h : ∀ v' w', w'.ownsRow base 26 1 v' (k + n) (xs ++ news) → w.grownBy w' v.ownBlock → wpList Tryz.prog ops Q rest (a.put o.dst v') w') : wpList Tryz.prog ops Q (o :: rest) a w := by
  obtain ⟨i0, hi0, hz0, hz1, hz2⟩ := info_parts infoB
  cases sa with
  | none =>
    obtain ⟨rfl, rfl⟩ := hnil rfl
    have : news = [] := List.length_eq_zero_iff.1 hl
    subst this
    refine wpList_append_own_none hgd s x 71 ho base 26 i0 1 Tryz.underlying71 hi0 v k xs hs hown hx ?_
    refine h v w ?_ ⟨rfl, rfl, rfl, Nat.le_refl _, fun _ _ _ => rfl⟩
    simpa using hown
  | some p =>
    exact wpList_append_own _ hgd s x 71 ho base 26 i0 _ 1 24 Tryz.underlying71 hi0 hz0 hz1 hz2 rfl (by decide) v k xs hs hown p n c news hx (by omega) (hc p rfl) h1 (by unfold maxLen; omega) (by omega) hbase (fun v' w' h1 h2 _ => h v' w' h1 h2)
/-- WHAT told HOLDS, at any moment of one of its rounds -/
structure TD (w X : World) (B sb qb : Nat) (st : Bst) (F G : Nat → Prop) (v5 : Value) (Us : List Value) (ck : Prop) (b1 b2 b3 : Nat) (vc : Value) (Qc : List PR) (vt : Value) (Qt : List PR) (vf : Value) (Qf : List FG) : Prop where
  bk : Book X B sb st F
  rb : RB X B qb st G
  tn : Turn F w X
  own : X.ownsRow w.heap.size 26 1 v5 Us.length Us
  us : ck → ∀ u ∈ Us, ∃ s, Str X (fun i => w.heap.size ≤ i) u s ∧ s.length ≤ 140737488351232
  pc : POut X b1 vc Qc
  pt : POut X b2 vt Qt
  pf : FOut X b3 vf Qf
/-- what does not change in a call of told -/
structure TK (w : World) (qb : Nat) (F G : Nat → Prop) : Prop where
  lim : ∀ i, F i → i < w.heap.size
  q : ¬ F qb
  g : ∀ i, G i → ¬ F i
  ql : qb < w.heap.size
  gl : ∀ i, G i → i < w.heap.size
section
variable {w X X' : World} {B sb qb : Nat} {st : Bst} {F G : Nat → Prop} {v5 : Value} {Us : List Value} {ck : Prop} {b1 b2 b3 : Nat} {vc : Value} {Qc : List PR} {vt : Value} {Qt : List PR} {vf : Value} {Qf : List FG}
theorem TD.turn (h : TD w X B sb qb st F G v5 Us ck b1 b2 b3 vc Qc vt Qt vf Qf) (k : TK w qb F G) (h1 : w.heap.size ≤ b1) (h2 : w.heap.size ≤ b2) (h3 : w.heap.size ≤ b3) (t : Turn F X X') (hb : Book X' B sb st F) : TD w X' B sb qb st F G v5 Us ck b1 b2 b3 vc Qc vt Qt vf Qf :=
  ⟨hb, h.rb.turn t k.q k.g, h.tn.trans t (fun i q => Or.inl q), own_turn h.own t (fun g hg q => by have := (h.own.lt g hg).1; have := k.lim g q; omega), fun c u hu => by
    obtain ⟨s, hs, hl⟩ := h.us c u hu
    exact ⟨s, hs.turn t (fun i hi _ q => by have := k.lim i q; omega), hl⟩,
    h.pc.turn t (fun i q _ => by have := k.lim i q; omega), h.pt.turn t (fun i q _ => by have := k.lim i q; omega), h.pf.turn t (fun i q _ => by have := k.lim i q; omega)⟩
theorem TD.below (h : TD w X B sb qb st F G v5 Us ck b1 b2 b3 vc Qc vt Qt vf Qf) (k : TK w qb F G) (h1 : w.heap.size ≤ b1) (h2 : w.heap.size ≤ b2) (h3 : w.heap.size ≤ b3) (hb : Below X.heap.size X X') : TD w X' B sb qb st F G v5 Us ck b1 b2 b3 vc Qc vt Qt vf Qf :=
  h.turn k h1 h2 h3 (Turn.of_below hb) (h.bk.below hb)
theorem nilP (X : World) (b : Nat) : POut X b (.slice none 0 0) [] := ⟨World.ownsRow_nil _ _ _ _, fun q hq => by simp at hq, List.Pairwise.nil⟩
theorem nilF (X : World) (b : Nat) : FOut X b (.slice none 0 0) [] := ⟨World.ownsRow_nil _ _ _ _, fun q hq => by simp at hq, List.Pairwise.nil⟩
end
theorem PAcc.out {w0 w : World} {v : Value} {Q : List PR} (h : PAcc w0 w v Q) : POut w w0.heap.size v Q := ⟨h.own, h.ok, h.sep⟩
theorem FAcc.out {w0 w : World} {v : Value} {Q : List FG} (h : FAcc w0 w v Q) : FOut w w0.heap.size v Q := ⟨h.own, h.ok, h.sep⟩
theorem POut.blk {w : World} {B : Nat} {v : Value} {Q : List PR} (h : POut w B v Q) : ∀ u ∈ Q.flatMap PR.enc, ∀ g, u.ownBlock = some g → B ≤ g ∧ g < w.heap.size := fun u hu g hg => by
  obtain ⟨q, hq, hu⟩ := List.mem_flatMap.1 hu
  simp only [PR.enc, List.mem_cons, List.not_mem_nil, or_false] at hu
  rcases hu with rfl | rfl
  · exact ⟨(h.ok q hq).sa.foot g hg, ((h.ok q hq).sa.own.lt g hg).2⟩
  · exact ⟨(h.ok q hq).sb.foot g hg, ((h.ok q hq).sb.own.lt g hg).2⟩
theorem FOut.blk {w : World} {B : Nat} {v : Value} {Q : List FG} (h : FOut w B v Q) : ∀ u ∈ Q.map FG.u, ∀ g, u.ownBlock = some g → B ≤ g ∧ g < w.heap.size := fun u hu g hg => by
  obtain ⟨q, hq, rfl⟩ := List.mem_map.1 hu
  exact ⟨(h.ok q hq).str.foot g hg, ((h.ok q hq).str.own.lt g hg).2⟩
theorem POut.strs {w : World} {B : Nat} {v : Value} {Q : List PR} (h : POut w B v Q) {L : List (List Nat)} (hin : ∀ q ∈ Q, q.a ∈ L ∧ q.b ∈ L) (hL : ∀ s ∈ L, s.length ≤ 140737488351232) {F : Nat → Prop} (hF : ∀ i, B ≤ i → F i) : ∀ u ∈ Q.flatMap PR.enc, ∃ s, Str w F u s ∧ s.length ≤ 140737488351232 := fun u hu => by
  obtain ⟨q, hq, hu⟩ := List.mem_flatMap.1 hu
  simp only [PR.enc, List.mem_cons, List.not_mem_nil, or_false] at hu
  rcases hu with rfl | rfl
  · exact ⟨q.a, (h.ok q hq).sa.mono hF, hL _ (hin q hq).1⟩
  · exact ⟨q.b, (h.ok q hq).sb.mono hF, hL _ (hin q hq).2⟩
theorem FOut.strs {w : World} {B : Nat} {v : Value} {Q : List FG} (h : FOut w B v Q) {L : List (List Nat)} (hin : Q.map FG.s = L) (hL : ∀ s ∈ L, s.length ≤ 140737488351232) {F : Nat → Prop} (hF : ∀ i, B ≤ i → F i) : ∀ u ∈ Q.map FG.u, ∃ s, Str w F u s ∧ s.length ≤ 140737488351232 := fun u hu => by
  obtain ⟨q, hq, rfl⟩ := List.mem_map.1 hu
  exact ⟨q.s, (h.ok q hq).str.mono hF, hL _ (by rw [← hin]; exact List.mem_map.2 ⟨q, hq, rfl⟩)⟩
theorem strs_len (c t : List PR) (f : List FG) : (strs c t f).length = 2 * c.length + 2 * t.length + f.length := by unfold strs; rw [List.length_append, List.length_append, pairs_len, pairs_len, List.length_map]
/-- what has grown by a round's strings shares no room -/
theorem sep_app {Us : List Value} {Qc Qt : List PR} {Qf : List FG} {b1 b2 b3 : Nat} (hu : Us.Pairwise Sep) (ub : ∀ u ∈ Us, ∀ g, u.ownBlock = some g → g < b1) (sc : (Qc.flatMap PR.enc).Pairwise Sep) (st : (Qt.flatMap PR.enc).Pairwise Sep) (sf : (Qf.map FG.u).Pairwise Sep)
    (cb : ∀ u ∈ Qc.flatMap PR.enc, ∀ g, u.ownBlock = some g → b1 ≤ g ∧ g < b2) (tb : ∀ u ∈ Qt.flatMap PR.enc, ∀ g, u.ownBlock = some g → b2 ≤ g ∧ g < b3) (fb : ∀ u ∈ Qf.map FG.u, ∀ g, u.ownBlock = some g → b3 ≤ g) (h12 : b1 ≤ b2) (h23 : b2 ≤ b3) : (Us ++ strs Qc Qt Qf).Pairwise Sep := by
  unfold strs
  rw [List.pairwise_append, List.pairwise_append, List.pairwise_append]
  refine ⟨hu, ⟨⟨sc, st, fun u hu x hx g h1 h2 => ?_⟩, sf, fun u hu x hx g h1 h2 => ?_⟩, fun u hu x hx g h1 h2 => ?_⟩
  · have := cb u hu g h1; have := tb x hx g h2; omega
  · have q := fb x hx g h2
    rcases List.mem_append.1 hu with hu | hu
    · have := cb u hu g h1; omega
    · have := tb u hu g h1; omega
  · have q := ub u hu g h1
    rcases List.mem_append.1 hx with hx | hx
    · rcases List.mem_append.1 hx with hx | hx
      · have := cb x hx g h2; omega
      · have := tb x hx g h2; omega
    · have := fb x hx g h2; omega

set_option maxRecDepth 100000 in
set_option maxHeartbeats 6400000 in
theorem told_any (w : World) (B sb qb : Nat) (st : Bst) (F G : Nat → Prop) (hb : Book w B sb st F) (hq : RB w B qb st G) (hK : TK w qb F G) (hS : Small st) (hH : st.LH.length ≤ 1000000) (hC : st.LC.length ≤ 1000000) (hF : st.LF.length ≤ 1000000) :
    Calls Tryz.prog 21 #[.pointer (some ⟨sb, 0, none⟩), .pointer (some ⟨qb, 0, none⟩)] w fun e w' => e = .returned (.bool true) ∧ Book w' B sb st F ∧ RB w' B qb st G ∧ Turn F w w' := by
  have HK : Hid (TK w qb F G ∧ Small st ∧ st.LH.length ≤ 1000000 ∧ st.LC.length ≤ 1000000 ∧ st.LF.length ≤ 1000000) := ⟨hK, hS, hH, hC, hF⟩
  have HR : Hid (Ris st.LH ∧ Ris st.LC) := by obtain ⟨sa, sB, sc, ah, ch, ac, cc, af, cf, Qh, Qc, Qf, hk⟩ := hq; exact ⟨hk.rh, hk.rc⟩
  have H0 : Hid (Book w B sb st F ∧ RB w B qb st G) := ⟨hb, hq⟩
  obtain ⟨i0, hi0, hz0, hz1, hz2⟩ := info_parts infoB
  have HI : Hid (Tryz.prog.info? 26 = some i0 ∧ i0.zero = some nilS ∧ i0.size = 1 ∧ i0.bytes = 24) := ⟨hi0, hz0, hz1, hz2⟩
  clear hb hq hK hS hH hC hF hi0 hz0 hz1 hz2
  go_enter Tryz.func21, Tryz.ntmps21
  go_wp2_with fail
  go_loopg [5, 6] 3 (fun gg v ii wr => ∃ (p : Nat) (Us : List Value), p ≤ 3 ∧ gg = 3 - p ∧ ii = .int .i64 p ∧ Book wr B sb st F ∧ RB wr B qb st G ∧ Turn F w wr ∧ wr.ownsRow w.heap.size 26 1 v Us.length Us ∧ Us.length ≤ p * 10000000 ∧ (p ≤ 1 → (∀ u ∈ Us, ∃ s, Str wr (fun i => w.heap.size ≤ i) u s ∧ s.length ≤ 140737488351232) ∧ Us.Pairwise Sep))
  case atStart => exact ⟨0, [], by omega, rfl, rfl, H0.out.1, H0.out.2, Turn.refl _ _, World.ownsRow_nil _ _ _ _, Nat.zero_le _, fun _ => ⟨fun u hu => by simp at hu, List.Pairwise.nil⟩⟩
  case round =>
    clear H0
    obtain ⟨p, Us, hp, rfl, rfl, hb, hq, ht, ho, hl, hu⟩ := hrel
    by_cases hp3 : p < 3
    · have i1 : (p : Int) < 3 := by omega
      have HP : Hid ((p ≤ 1 → Us.Pairwise Sep) ∧ (p ≤ 1 → ∀ u ∈ Us, ∀ g, u.ownBlock = some g → g < wr.heap.size) ∧ Us.length ≤ p * 10000000 ∧ w.heap.size ≤ wr.heap.size) := ⟨fun h => (hu h).2, fun h u h2 g hg => by
        obtain ⟨s, hs, _⟩ := (hu h).1 u h2
        exact (hs.own.lt g hg).2, hl, ht.size⟩
      have T0 : TD w wr B sb qb st F G u5 Us (p ≤ 1) wr.heap.size wr.heap.size wr.heap.size (.slice none 0 0) [] (.slice none 0 0) [] (.slice none 0 0) [] := ⟨hb, hq, ht, ho, fun h => (hu h).1, nilP _ _, nilP _ _, nilF _ _⟩
      have c1 := clashes_any wr B sb st F hb (fun s hs => by have := HK.out.2.1.sh s hs; omega) (by have := HK.out.2.2.1; omega)
      have HT0 : Hid (TD w wr B sb qb st F G u5 Us (p ≤ 1) wr.heap.size wr.heap.size wr.heap.size (.slice none 0 0) [] (.slice none 0 0) [] (.slice none 0 0) []) := T0
      clear hb hq ht ho hl hu T0
      go_wp2_with fail
      refine c1.mono ?_
      rintro _ w1 ⟨vc, Qc, rfl, ec, oc, k1, t1⟩
      have T1 := HT0.out.turn HK.out.1 HP.out.2.2.2 HP.out.2.2.2 HP.out.2.2.2 t1 k1
      have HC : Hid (Qc.map PR.ab = pairsL (kh st.bits) st.LH ∧ Qc.length ≤ 1000000 ∧ (∀ q ∈ Qc, q.a ∈ st.LH ∧ q.b ∈ st.LH) ∧ (Qc.flatMap PR.enc).Pairwise Sep ∧ ∀ u ∈ Qc.flatMap PR.enc, ∀ g, u.ownBlock = some g → wr.heap.size ≤ g ∧ g < w1.heap.size) := ⟨ec, by
        have e1 := congrArg List.length ec
        rw [List.length_map] at e1
        have := pairsL_le (κ := kh st.bits) HR.out.1
        have := HK.out.2.2.1
        omega, pairs_in HR.out.1 ec, oc.sep, oc.blk⟩
      have HT1 : Hid (TD w w1 B sb qb st F G u5 Us (p ≤ 1) wr.heap.size w1.heap.size w1.heap.size vc Qc (.slice none 0 0) [] (.slice none 0 0) [] ∧ wr.heap.size ≤ w1.heap.size) := ⟨{ T1 with pc := oc, pt := nilP _ _, pf := nilF _ _ }, t1.size⟩
      have c2 := twins_any4 w1 B sb st F k1 (fun s hs => by have := HK.out.2.1.sc s hs; omega) (by have := HK.out.2.2.2.1; omega)
      obtain ⟨ac, cc, evc, _⟩ := oc.form
      subst evc
      clear ec oc k1 t1 T1 c1 HT0
      go_wp2_with fail
      refine c2.mono ?_
      rintro _ w2 ⟨vt, Qt, rfl, et, ot, k2, t2⟩
      have T2 := HT1.out.1.turn HK.out.1 HP.out.2.2.2 (Nat.le_trans HP.out.2.2.2 HT1.out.2) (Nat.le_trans HP.out.2.2.2 HT1.out.2) t2 k2
      have HTT : Hid (Qt.map PR.ab = pairsL (kc st.cbits st.S) st.LC ∧ Qt.length ≤ 1000000 ∧ (∀ q ∈ Qt, q.a ∈ st.LC ∧ q.b ∈ st.LC) ∧ (Qt.flatMap PR.enc).Pairwise Sep ∧ ∀ u ∈ Qt.flatMap PR.enc, ∀ g, u.ownBlock = some g → w1.heap.size ≤ g ∧ g < w2.heap.size) := ⟨et, by
        have e1 := congrArg List.length et
        rw [List.length_map] at e1
        have := pairsL_le (κ := kc st.cbits st.S) HR.out.2
        have := HK.out.2.2.2.1
        omega, pairs_in HR.out.2 et, ot.sep, ot.blk⟩
      have HT2 : Hid (TD w w2 B sb qb st F G u5 Us (p ≤ 1) wr.heap.size w1.heap.size w2.heap.size (.slice ac Qc.length cc) Qc vt Qt (.slice none 0 0) [] ∧ wr.heap.size ≤ w1.heap.size ∧ w1.heap.size ≤ w2.heap.size) := ⟨{ T2 with pt := ot, pf := nilF _ _ }, HT1.out.2, t2.size⟩
      have c3 := forgeries_any w2 B sb st F k2 (fun s hs => by have := HK.out.2.1.sf s hs; omega) (by have := HK.out.2.2.2.2; omega)
      obtain ⟨at', ct, evt, _⟩ := ot.form
      subst evt
      clear et ot k2 t2 T2 c2 HT1
      go_wp2_with fail
      refine c3.mono ?_
      rintro _ w3 ⟨vf, Qf, rfl, ef, kf, of_, k3, t3⟩
      have T3 := HT2.out.1.turn HK.out.1 HP.out.2.2.2 (Nat.le_trans HP.out.2.2.2 HT2.out.2.1) (Nat.le_trans HP.out.2.2.2 (Nat.le_trans HT2.out.2.1 HT2.out.2.2)) t3 k3
      have HFF : Hid (Qf.map FG.s = st.LF ∧ Qf.length ≤ 1000000 ∧ (∀ q ∈ Qf, q.k = kc st.cbits st.S q.s) ∧ (Qf.map FG.u).Pairwise Sep ∧ ∀ u ∈ Qf.map FG.u, ∀ g, u.ownBlock = some g → w2.heap.size ≤ g) := ⟨ef, by rw [map_len ef]; exact HK.out.2.2.2.2, kf, of_.sep, fun u hu g hg => (of_.blk u hu g hg).1⟩
      have HBB : Hid (w.heap.size ≤ wr.heap.size ∧ wr.heap.size ≤ w1.heap.size ∧ w1.heap.size ≤ w2.heap.size) := ⟨HP.out.2.2.2, HT2.out.2.1, HT2.out.2.2⟩
      obtain ⟨af, cf, evf, _⟩ := of_.form
      subst evf
      obtain ⟨b1, eb1⟩ : ∃ b1, b1 = wr.heap.size := ⟨_, rfl⟩
      obtain ⟨b2, eb2⟩ : ∃ b2, b2 = w1.heap.size := ⟨_, rfl⟩
      obtain ⟨b3, eb3⟩ : ∃ b3, b3 = w2.heap.size := ⟨_, rfl⟩
      have T3' : TD w w3 B sb qb st F G u5 Us (p ≤ 1) wr.heap.size w1.heap.size w2.heap.size (.slice ac Qc.length cc) Qc (.slice at' Qt.length ct) Qt (.slice af Qf.length cf) Qf := { T3 with pf := of_ }
      rw [← eb1, ← eb2, ← eb3] at T3' HBB
      rw [← eb1] at HP
      rw [← eb1, ← eb2] at HC
      rw [← eb2, ← eb3] at HTT
      rw [← eb3] at HFF
      have HT3 : Hid (TD w w3 B sb qb st F G u5 Us (p ≤ 1) b1 b2 b3 (.slice ac Qc.length cc) Qc (.slice at' Qt.length ct) Qt (.slice af Qf.length cf) Qf) := T3'
      have HL : Hid (w.heap.size ≤ b1 ∧ w.heap.size ≤ b2 ∧ w.heap.size ≤ b3 ∧ b1 ≤ b2 ∧ b2 ≤ b3) := by have := HBB.out; exact ⟨by omega, by omega, by omega, by omega, by omega⟩
      have c4 := rb_forgeries w3 B qb st G T3'.rb HK.out.2.1
      clear ef kf of_ k3 t3 T3 T3' c3 HT2 HBB eb1 eb2 eb3
      go_wp2_with fail
      refine c4.mono ?_
      rintro _ w4 ⟨vw, Qw, rfl, pw, ew, kw⟩
      have T4 := HT3.out.below HK.out.1 HL.out.1 HL.out.2.1 HL.out.2.2.1 pw.below
      have HT4 : Hid (TD w w4 B sb qb st F G u5 Us (p ≤ 1) b1 b2 b3 (.slice ac Qc.length cc) Qc (.slice at' Qt.length ct) Qt (.slice af Qf.length cf) Qf) := T4
      have HW4 : Hid (FOut w4 w3.heap.size vw Qw ∧ Qw.map FG.s = st.LF ∧ (∀ q ∈ Qw, q.k = kc st.cbits st.S q.s) ∧ w.heap.size ≤ w3.heap.size) := ⟨pw.out, ew, kw, HT3.out.tn.size⟩
      obtain ⟨aw, cw, evw, _⟩ := pw.out.form
      subst evw
      have c5 := rb_clashes w4 B qb st G T4.rb HK.out.2.1
      have eln : Qw.length = Qf.length := by rw [map_len ew, map_len HFF.out.1]
      clear T4 pw ew kw c4 HT3
      go_wp2_with fail
      refine c5.mono ?_
      rintro _ w5 ⟨v5', P5, rfl, p5, e5⟩
      have T5 := HT4.out.below HK.out.1 HL.out.1 HL.out.2.1 HL.out.2.2.1 p5.below
      have W5 := HW4.out.1.turn (Turn.of_below p5.below (F := fun _ => False)) (fun _ q => q.elim)
      have c6 := samePairs_any w5 _ _ _ _ Qc P5 T5.pc p5.out (by rw [HC.out.1, e5]) (by have := HC.out.2.1; omega)
      have HT5 : Hid (TD w w5 B sb qb st F G u5 Us (p ≤ 1) b1 b2 b3 (.slice ac Qc.length cc) Qc (.slice at' Qt.length ct) Qt (.slice af Qf.length cf) Qf ∧ FOut w5 w3.heap.size (.slice aw Qw.length cw) Qw) := ⟨T5, W5⟩
      obtain ⟨a5, c5', ev5, _⟩ := p5.out.form
      subst ev5
      clear T5 W5 p5 e5 c5 HT4
      go_wp2_with fail
      refine c6.mono ?_
      rintro _ w6 ⟨rfl, q6, hw6⟩
      have b6 : Below w5.heap.size w5 w6 := by rw [hw6]; exact below_drewN (Below.refl _ _) q6
      have T6 := HT5.out.1.below HK.out.1 HL.out.1 HL.out.2.1 HL.out.2.2.1 b6
      have W6 := HT5.out.2.turn (Turn.of_below b6 (F := fun _ => False)) (fun _ q => q.elim)
      have HT6 : Hid (TD w w6 B sb qb st F G u5 Us (p ≤ 1) b1 b2 b3 (.slice ac Qc.length cc) Qc (.slice at' Qt.length ct) Qt (.slice af Qf.length cf) Qf ∧ FOut w6 w3.heap.size (.slice aw Qw.length cw) Qw) := ⟨T6, W6⟩
      have c7 := rb_twins w6 B qb st G T6.rb HK.out.2.1
      clear T6 W6 b6 hw6 c6 HT5
      go_wp2_with fail
      refine c7.mono ?_
      rintro _ w7 ⟨v7', P7, rfl, p7, e7⟩
      have T7 := HT6.out.1.below HK.out.1 HL.out.1 HL.out.2.1 HL.out.2.2.1 p7.below
      have W7 := HT6.out.2.turn (Turn.of_below p7.below (F := fun _ => False)) (fun _ q => q.elim)
      have c8 := samePairs_any w7 _ _ _ _ Qt P7 T7.pt p7.out (by rw [HTT.out.1, e7]) (by have := HTT.out.2.1; omega)
      have HT7 : Hid (TD w w7 B sb qb st F G u5 Us (p ≤ 1) b1 b2 b3 (.slice ac Qc.length cc) Qc (.slice at' Qt.length ct) Qt (.slice af Qf.length cf) Qf ∧ FOut w7 w3.heap.size (.slice aw Qw.length cw) Qw) := ⟨T7, W7⟩
      obtain ⟨a7, c7', ev7, _⟩ := p7.out.form
      subst ev7
      clear T7 W7 p7 e7 c7 HT6
      go_wp2_with fail
      refine c8.mono ?_
      rintro _ w8 ⟨rfl, q8, hw8⟩
      have b8 : Below w7.heap.size w7 w8 := by rw [hw8]; exact below_drewN (Below.refl _ _) q8
      have T8 := HT7.out.1.below HK.out.1 HL.out.1 HL.out.2.1 HL.out.2.2.1 b8
      have W8 := HT7.out.2.turn (Turn.of_below b8 (F := fun _ => False)) (fun _ q => q.elim)
      have HT8 : Hid (TD w w8 B sb qb st F G u5 Us (p ≤ 1) b1 b2 b3 (.slice ac Qc.length cc) Qc (.slice at' Qt.length ct) Qt (.slice af Qf.length cf) Qf ∧ FOut w8 w3.heap.size (.slice aw Qw.length cw) Qw) := ⟨T8, W8⟩
      have c9 := sound_any5 w8 B sb st F T8.bk
      have c10 : Hid (∀ v, RB v B qb st G → Calls Tryz.prog 47 #[.pointer (some ⟨qb, 0, none⟩)] v fun e w' => e = .returned (.bool (decide (Lone (kh st.bits) st.LH) && decide (Lone (kc st.cbits st.S) st.LC) && decide (st.LF.length = 0))) ∧ Below v.heap.size v w') := fun v hv => rb_sound v B qb st G hv HK.out.2.1
      generalize (decide (Lone (kh st.bits) st.LH) && decide (Lone (kc st.cbits st.S) st.LC) && decide (st.LF.length = 0)) = bb at c9 c10
      have HEL : Hid (Qw.length = Qf.length) := eln
      clear T8 W8 b8 hw8 c8 HT7 eln
      go_wp2_with fail
      refine c9.mono ?_
      rintro _ w9 ⟨rfl, k9, t9⟩
      have T9 := HT8.out.1.turn HK.out.1 HL.out.1 HL.out.2.1 HL.out.2.2.1 t9 k9
      have W9 := HT8.out.2.turn t9 (fun i q _ => by have := HK.out.1.lim i q; have := HW4.out.2.2.2; omega)
      have HT9 : Hid (TD w w9 B sb qb st F G u5 Us (p ≤ 1) b1 b2 b3 (.slice ac Qc.length cc) Qc (.slice at' Qt.length ct) Qt (.slice af Qf.length cf) Qf ∧ FOut w9 w3.heap.size (.slice aw Qw.length cw) Qw) := ⟨T9, W9⟩
      have c11 := c10.out w9 T9.rb
      clear T9 W9 t9 k9 c9 c10 HT8
      go_wp2_with fail
      refine c11.mono ?_
      rintro _ w10 ⟨rfl, b10⟩
      have T10 := HT9.out.1.below HK.out.1 HL.out.1 HL.out.2.1 HL.out.2.2.1 b10
      have W10 := HT9.out.2.turn (Turn.of_below b10 (F := fun _ => False)) (fun _ q => q.elim)
      have HT10 : Hid (TD w w10 B sb qb st F G u5 Us (p ≤ 1) b1 b2 b3 (.slice ac Qc.length cc) Qc (.slice at' Qt.length ct) Qt (.slice af Qf.length cf) Qf ∧ FOut w10 w3.heap.size (.slice aw Qw.length cw) Qw) := ⟨T10, W10⟩
      have hbb : (bb != bb) = false := by cases bb <;> rfl
      clear T10 W10 b10 c11 HT9
      go_wp2_with fail
      go_loopg [11] Qf.length (fun gg ii wi => ∃ i : Nat, i ≤ Qf.length ∧ gg = Qf.length - i ∧ ii = .int .i64 i ∧ ∃ q, wi = w10.drewN q)
      case atStart => exact ⟨0, Nat.zero_le _, rfl, rfl, 0, rfl⟩
      case round =>
        obtain ⟨i, hi, rfl, rfl, qq, hwi⟩ := hrel
        have HWI : Hid (wr = w10.drewN qq) := hwi
        have hQf := HFF.out.2.1
        by_cases hiq : i < Qf.length
        · have i2 : (i : Int) < (Qf.length : Int) := by omega
          obtain ⟨p1, ep1⟩ : ∃ p1, Qf[i]? = some p1 := ⟨_, List.getElem?_eq_getElem hiq⟩
          obtain ⟨r1, er1⟩ : ∃ r1, Qw[i]? = some r1 := ⟨_, List.getElem?_eq_getElem (by rw [HEL.out]; exact hiq)⟩
          have es : p1.s = r1.s := by
            have h1 : (Qf.map FG.s)[i]? = (Qw.map FG.s)[i]? := by rw [HFF.out.1, HW4.out.2.1]
            rw [List.getElem?_map, List.getElem?_map, ep1, er1] at h1
            exact Option.some.inj h1
          have ek : p1.k = r1.k := by rw [HFF.out.2.2.1 p1 (List.mem_of_getElem? ep1), HW4.out.2.2.1 r1 (List.mem_of_getElem? er1), es]
          obtain ⟨g1, e1⟩ : ∃ g, af = some ⟨g, 0, none⟩ := by
            obtain ⟨x, y, e, z⟩ := HT10.out.1.pf.form
            injection e with e
            rw [e]
            exact z (by omega)
          obtain ⟨g2, e2⟩ : ∃ g, aw = some ⟨g, 0, none⟩ := by
            obtain ⟨x, y, e, z⟩ := HT10.out.2.form
            injection e with e
            rw [e]
            exact z (by rw [HEL.out]; omega)
          subst e1
          subst e2
          obtain ⟨pa, ga, ca, x1, x2, x3, _, x5⟩ := HT10.out.1.pf.ix i p1 ep1
          obtain ⟨ra, ha, da, y1, y2, y3, _, _⟩ := HT10.out.2.ix i r1 er1
          rw [← es] at y1 y2
          rw [← ek] at y3
          have HC1 : Hid (∀ v, (∃ q, v = wr.drewN q) → v.cell? ⟨g1, i * 33, none⟩ = some (.slice pa p1.s.length ca) ∧ v.cell? ⟨g2, i * 33, none⟩ = some (.slice ra p1.s.length da) ∧ v.rangeAt g1 (i * 33 + 1) (bv p1.k) ∧ v.rangeAt g2 (i * 33 + 1) (bv p1.k)) := fun v hv => by
            obtain ⟨q, rfl⟩ := hv
            rw [HWI.out]
            exact ⟨x1, y1, x3, y3⟩
          have HV1 : Hid (∀ v, (∃ q, v = wr.drewN q) → Vw v pa ga 0 p1.s ∧ Vw v ra ha 0 p1.s) := fun v hv => by
            obtain ⟨q, rfl⟩ := hv
            rw [HWI.out]
            exact ⟨(x2.drewN qq).drewN q, (y2.drewN qq).drewN q⟩
          have HKH : Hid (IsH p1.k) := x5
          generalize p1.s = s at HC1 HV1
          generalize p1.k = k at HC1 HKH
          have eqk : ∀ w0 : World, (Op.equalIn 10000 31 (.agg (hA k)) (.agg (hA k))).run Tryz.prog w0 = .ok true w0 := fun w0 => by rw [eqH_any w0 _ _ HKH.out HKH.out, decide_eq_true rfl]
          clear x1 x2 x3 x5 y1 y2 y3 es ek ep1 er1 hwi
          go_wp2_with fail
          have s0 : (fun v => ∃ q, v = wr.drewN q) wr.drew := ⟨1, rfl⟩
          refine wp_region_held_drew (S := fun v => ∃ q, v = wr.drewN q) (by kernel_rfl) s0 ?_
          intro hS
          clear s0
          change wpAnyH _ _ _ _ _ 25 _ _ _
          generalize wr.drew = wd at hS ⊢
          refine wpAnyH_take (i := 0) (v := (.slice (some ⟨g1, 0, none⟩) Qf.length cf)) (by simp only [List.getElem?_toArray, List.getElem?_cons_zero]; rfl) (by kernel_rfl) (by kernel_rfl) (by kernel_rfl) (by exact fun _ _ _ h => h) (y_move (by kernel_rfl) _ rfl _ rfl) hS ?_
          try simp only [Act.put, List.setIfInBounds_toArray, List.set_cons_zero, List.set_cons_succ]
          refine wpAnyH_take (i := 1) (v := (.int .i64 (i : Nat))) (by simp only [List.getElem?_toArray, List.getElem?_cons_zero, List.getElem?_cons_succ]; rfl) (by kernel_rfl) (by kernel_rfl) (by kernel_rfl) (by exact fun _ _ _ h => h) (y_move (by kernel_rfl) _ rfl _ rfl) hS ?_
          try simp only [Act.put, List.setIfInBounds_toArray, List.set_cons_zero, List.set_cons_succ]
          refine wpAnyH_take (i := 2) (v := (.pointer (some ⟨g1, i * 33, none⟩))) (by simp only [List.getElem?_toArray, List.getElem?_cons_zero, List.getElem?_cons_succ]; rfl) (by kernel_rfl) (by kernel_rfl) (by kernel_rfl) (by exact fun _ _ _ h => h) (y_indexG (by kernel_rfl) _ _ rfl g1 Qf.length cf i rfl rfl hiq) hS ?_
          try simp only [Act.put, List.setIfInBounds_toArray, List.set_cons_zero, List.set_cons_succ]
          refine wpAnyH_take (i := 3) (v := (.pointer (some ⟨g1, i * 33 + 0, none⟩))) (by simp only [List.getElem?_toArray, List.getElem?_cons_zero, List.getElem?_cons_succ]; rfl) (by kernel_rfl) (by kernel_rfl) (by kernel_rfl) (by exact fun _ _ _ h => h) (y_fieldF (by kernel_rfl) _ 0 rfl g1 (i * 33) rfl (by decide)) hS ?_
          try simp only [Act.put, List.setIfInBounds_toArray, List.set_cons_zero, List.set_cons_succ]
          refine wpAnyH_take (i := 4) (v := (.slice pa s.length ca)) (by simp only [List.getElem?_toArray, List.getElem?_cons_zero, List.getElem?_cons_succ]; rfl) (by kernel_rfl) (by kernel_rfl) (by kernel_rfl) (by exact fun _ _ _ h => h) (y_loadB (by kernel_rfl) _ rfl g1 (i * 33 + 0) rfl _ (fun v hs => (HC1.out v hs).1)) hS ?_
          try simp only [Act.put, List.setIfInBounds_toArray, List.set_cons_zero, List.set_cons_succ]
          refine wpAnyH_take (i := 5) (v := (.slice (some ⟨g2, 0, none⟩) Qf.length cw)) (by simp only [List.getElem?_toArray, List.getElem?_cons_zero, List.getElem?_cons_succ]; rfl) (by kernel_rfl) (by kernel_rfl) (by kernel_rfl) (by exact fun _ _ _ h => h) (y_move (by kernel_rfl) _ rfl _ rfl) hS ?_
          try simp only [Act.put, List.setIfInBounds_toArray, List.set_cons_zero, List.set_cons_succ]
          refine wpAnyH_take (i := 6) (v := (.int .i64 (i : Nat))) (by simp only [List.getElem?_toArray, List.getElem?_cons_zero, List.getElem?_cons_succ]; rfl) (by kernel_rfl) (by kernel_rfl) (by kernel_rfl) (by exact fun _ _ _ h => h) (y_move (by kernel_rfl) _ rfl _ rfl) hS ?_
          try simp only [Act.put, List.setIfInBounds_toArray, List.set_cons_zero, List.set_cons_succ]
          refine wpAnyH_take (i := 7) (v := (.pointer (some ⟨g2, i * 33, none⟩))) (by simp only [List.getElem?_toArray, List.getElem?_cons_zero, List.getElem?_cons_succ]; rfl) (by kernel_rfl) (by kernel_rfl) (by kernel_rfl) (by exact fun _ _ _ h => h) (y_indexG (by kernel_rfl) _ _ rfl g2 Qf.length cw i rfl rfl hiq) hS ?_
          try simp only [Act.put, List.setIfInBounds_toArray, List.set_cons_zero, List.set_cons_succ]
          refine wpAnyH_take (i := 8) (v := (.pointer (some ⟨g2, i * 33 + 0, none⟩))) (by simp only [List.getElem?_toArray, List.getElem?_cons_zero, List.getElem?_cons_succ]; rfl) (by kernel_rfl) (by kernel_rfl) (by kernel_rfl) (by exact fun _ _ _ h => h) (y_fieldF (by kernel_rfl) _ 0 rfl g2 (i * 33) rfl (by decide)) hS ?_
          try simp only [Act.put, List.setIfInBounds_toArray, List.set_cons_zero, List.set_cons_succ]
          refine wpAnyH_take (i := 9) (v := (.slice ra s.length da)) (by simp only [List.getElem?_toArray, List.getElem?_cons_zero, List.getElem?_cons_succ]; rfl) (by kernel_rfl) (by kernel_rfl) (by kernel_rfl) (by exact fun _ _ _ h => h) (y_loadB (by kernel_rfl) _ rfl g2 (i * 33 + 0) rfl _ (fun v hs => (HC1.out v hs).2.1)) hS ?_
          try simp only [Act.put, List.setIfInBounds_toArray, List.set_cons_zero, List.set_cons_succ]
          refine wpAnyH_ready (rs := [10]) (by kernel_rfl) (by simp) ?_
          refine AllReadyH.cons (by simp only [List.getElem?_toArray, List.getElem?_cons_zero, List.getElem?_cons_succ]; rfl) (fun K hK => ?_) AllReadyH.nil
          have sm := rsame_any _ pa ra _ _ ca _ _ da s s (HV1.out _ hS).1 (HV1.out _ hS).2
          rw [decide_eq_true rfl] at sm
          refine r_call2 38 _ _ #[26, 26] rfl (by kernel_rfl) (.slice pa s.length ca) (.slice ra s.length da) rfl rfl (enters_of Tryz.func38 (by kernel_rfl) rfl) (sm.mono ?_)
          rintro _ w11 ⟨rfl, q11, hw11⟩
          refine ⟨_, rfl, ?_⟩
          have hS2 : ∃ q, w11 = wr.drewN q := by
            obtain ⟨q, hq⟩ := hS
            exact ⟨q + q11, by rw [hw11, hq]; exact World.drewN_drewN _ _ _⟩
          clear hw11 sm
          refine hK.out _ _ hS2 (fun hS => ?_)
          clear hK K hS2
          try simp only [Act.put, List.setIfInBounds_toArray, List.set_cons_zero, List.set_cons_succ]
          refine wpAnyH_take (i := 11) (v := (.bool (!true))) (by simp only [List.getElem?_toArray, List.getElem?_cons_zero, List.getElem?_cons_succ]; rfl) (by kernel_rfl) (by kernel_rfl) (by kernel_rfl) (by exact fun _ _ _ h => h) (y_not (by kernel_rfl) _ rfl true rfl) hS ?_
          try simp only [Act.put, List.setIfInBounds_toArray, List.set_cons_zero, List.set_cons_succ]
          refine wpAnyH_take (i := 12) (v := (.bool false)) (by simp only [List.getElem?_toArray, List.getElem?_cons_zero, List.getElem?_cons_succ]; rfl) (by kernel_rfl) (by kernel_rfl) (by kernel_rfl) (by exact fun _ _ _ h => h) (y_move (by kernel_rfl) _ rfl _ rfl) hS ?_
          try simp only [Act.put, List.setIfInBounds_toArray, List.set_cons_zero, List.set_cons_succ]
          refine wpAnyH_take (i := 13) (v := (.slice (some ⟨g1, 0, none⟩) Qf.length cf)) (by simp only [List.getElem?_toArray, List.getElem?_cons_zero, List.getElem?_cons_succ]; rfl) (by kernel_rfl) (by kernel_rfl) (by kernel_rfl) (by exact fun _ _ _ h => h) (y_move (by kernel_rfl) _ rfl _ rfl) hS ?_
          try simp only [Act.put, List.setIfInBounds_toArray, List.set_cons_zero, List.set_cons_succ]
          refine wpAnyH_take (i := 14) (v := (.int .i64 (i : Nat))) (by simp only [List.getElem?_toArray, List.getElem?_cons_zero, List.getElem?_cons_succ]; rfl) (by kernel_rfl) (by kernel_rfl) (by kernel_rfl) (by exact fun _ _ _ h => h) (y_move (by kernel_rfl) _ rfl _ rfl) hS ?_
          try simp only [Act.put, List.setIfInBounds_toArray, List.set_cons_zero, List.set_cons_succ]
          refine wpAnyH_take (i := 15) (v := (.pointer (some ⟨g1, i * 33, none⟩))) (by simp only [List.getElem?_toArray, List.getElem?_cons_zero, List.getElem?_cons_succ]; rfl) (by kernel_rfl) (by kernel_rfl) (by kernel_rfl) (by exact fun _ _ _ h => h) (y_indexG (by kernel_rfl) _ _ rfl g1 Qf.length cf i rfl rfl hiq) hS ?_
          try simp only [Act.put, List.setIfInBounds_toArray, List.set_cons_zero, List.set_cons_succ]
          refine wpAnyH_take (i := 16) (v := (.pointer (some ⟨g1, i * 33 + 1, none⟩))) (by simp only [List.getElem?_toArray, List.getElem?_cons_zero, List.getElem?_cons_succ]; rfl) (by kernel_rfl) (by kernel_rfl) (by kernel_rfl) (by exact fun _ _ _ h => h) (y_fieldF (by kernel_rfl) _ 1 rfl g1 (i * 33) rfl (by decide)) hS ?_
          try simp only [Act.put, List.setIfInBounds_toArray, List.set_cons_zero, List.set_cons_succ]
          refine wpAnyH_take (i := 17) (v := (.agg (hA k))) (by simp only [List.getElem?_toArray, List.getElem?_cons_zero, List.getElem?_cons_succ]; rfl) (by kernel_rfl) (by kernel_rfl) (by kernel_rfl) (by exact fun _ _ _ h => h) (yieldsIf_load_mid (by kernel_rfl) _ _ rfl g1 (i * 33 + 1) rfl _ _ (fun v hs => (HC1.out v hs).2.2.1) Tryz.underlying31 rfl (hL_len HKH.out)) hS ?_
          try simp only [Act.put, List.setIfInBounds_toArray, List.set_cons_zero, List.set_cons_succ]
          refine wpAnyH_take (i := 18) (v := (.slice (some ⟨g2, 0, none⟩) Qf.length cw)) (by simp only [List.getElem?_toArray, List.getElem?_cons_zero, List.getElem?_cons_succ]; rfl) (by kernel_rfl) (by kernel_rfl) (by kernel_rfl) (by exact fun _ _ _ h => h) (y_move (by kernel_rfl) _ rfl _ rfl) hS ?_
          try simp only [Act.put, List.setIfInBounds_toArray, List.set_cons_zero, List.set_cons_succ]
          refine wpAnyH_take (i := 19) (v := (.int .i64 (i : Nat))) (by simp only [List.getElem?_toArray, List.getElem?_cons_zero, List.getElem?_cons_succ]; rfl) (by kernel_rfl) (by kernel_rfl) (by kernel_rfl) (by exact fun _ _ _ h => h) (y_move (by kernel_rfl) _ rfl _ rfl) hS ?_
          try simp only [Act.put, List.setIfInBounds_toArray, List.set_cons_zero, List.set_cons_succ]
          refine wpAnyH_take (i := 20) (v := (.pointer (some ⟨g2, i * 33, none⟩))) (by simp only [List.getElem?_toArray, List.getElem?_cons_zero, List.getElem?_cons_succ]; rfl) (by kernel_rfl) (by kernel_rfl) (by kernel_rfl) (by exact fun _ _ _ h => h) (y_indexG (by kernel_rfl) _ _ rfl g2 Qf.length cw i rfl rfl hiq) hS ?_
          try simp only [Act.put, List.setIfInBounds_toArray, List.set_cons_zero, List.set_cons_succ]
          refine wpAnyH_take (i := 21) (v := (.pointer (some ⟨g2, i * 33 + 1, none⟩))) (by simp only [List.getElem?_toArray, List.getElem?_cons_zero, List.getElem?_cons_succ]; rfl) (by kernel_rfl) (by kernel_rfl) (by kernel_rfl) (by exact fun _ _ _ h => h) (y_fieldF (by kernel_rfl) _ 1 rfl g2 (i * 33) rfl (by decide)) hS ?_
          try simp only [Act.put, List.setIfInBounds_toArray, List.set_cons_zero, List.set_cons_succ]
          refine wpAnyH_take (i := 22) (v := (.agg (hA k))) (by simp only [List.getElem?_toArray, List.getElem?_cons_zero, List.getElem?_cons_succ]; rfl) (by kernel_rfl) (by kernel_rfl) (by kernel_rfl) (by exact fun _ _ _ h => h) (yieldsIf_load_mid (by kernel_rfl) _ _ rfl g2 (i * 33 + 1) rfl _ _ (fun v hs => (HC1.out v hs).2.2.2) Tryz.underlying31 rfl (hL_len HKH.out)) hS ?_
          try simp only [Act.put, List.setIfInBounds_toArray, List.set_cons_zero, List.set_cons_succ]
          refine wpAnyH_take (i := 23) (v := (.bool (!true))) (by simp only [List.getElem?_toArray, List.getElem?_cons_zero, List.getElem?_cons_succ]; rfl) (by kernel_rfl) (by kernel_rfl) (by kernel_rfl) (by exact fun _ _ _ h => h) (y_neqHr (by kernel_rfl) _ _ rfl _ _ rfl rfl true eqk) hS ?_
          try simp only [Act.put, List.setIfInBounds_toArray, List.set_cons_zero, List.set_cons_succ]
          refine wpAnyH_take (i := 24) (v := (.bool false)) (by simp only [List.getElem?_toArray, List.getElem?_cons_zero, List.getElem?_cons_succ]; rfl) (by kernel_rfl) (by kernel_rfl) (by kernel_rfl) (by exact fun _ _ _ h => h) (y_pick_f (by kernel_rfl) _ _ _ rfl _ rfl rfl) hS ?_
          try simp only [Act.put, List.setIfInBounds_toArray, List.set_cons_zero, List.set_cons_succ]
          refine wpAnyH_done (by kernel_rfl) ?_ _
          have HW2 : Hid (∃ q, w11 = w10.drewN q) := by
            obtain ⟨q, hq⟩ := hS
            exact ⟨qq + q, by rw [hq, HWI.out]; exact World.drewN_drewN _ _ _⟩
          clear hS HC1 HV1 HWI eqk
          go_wp2_with fail
          go_roundg (Qf.length - (i + 1))
          case measure => omega
          case rel => exact ⟨i + 1, hiq, rfl, by go_num, HW2.out⟩
        · have i2 : ¬ ((i : Int) < (Qf.length : Int)) := by omega
          have b11 : Below w10.heap.size w10 wr := by rw [hwi]; exact below_drewN (Below.refl _ _) qq
          have T11 := HT10.out.1.below HK.out.1 HL.out.1 HL.out.2.1 HL.out.2.2.1 b11
          obtain ⟨w11, e11⟩ : ∃ w11, w11 = wr := ⟨_, rfl⟩
          rw [← e11] at T11
          have HT11 : Hid (TD w w11 B sb qb st F G u5 Us (p ≤ 1) b1 b2 b3 (.slice ac Qc.length cc) Qc (.slice at' Qt.length ct) Qt (.slice af Qf.length cf) Qf) := T11
          have c12 := strings_any w11 _ _ _ _ _ _ Qc Qt Qf T11.pc T11.pt T11.pf (by have := HC.out.2.1; omega) (by have := HTT.out.2.1; omega) (by omega)
          rw [← e11]
          clear b11 T11 hwi HWI HT10 e11
          go_wp2_with fail
          refine c12.mono ?_
          rintro _ w12 ⟨v12, rfl, o12, b12⟩
          have T12 := HT11.out.below HK.out.1 HL.out.1 HL.out.2.1 HL.out.2.2.1 b12
          have HT12 : Hid (TD w w12 B sb qb st F G u5 Us (p ≤ 1) b1 b2 b3 (.slice ac Qc.length cc) Qc (.slice at' Qt.length ct) Qt (.slice af Qf.length cf) Qf ∧ w12.ownsRow w11.heap.size 26 1 v12 (strs Qc Qt Qf).length (strs Qc Qt Qf) ∧ w.heap.size ≤ w11.heap.size ∧ w.heap.size ≤ w12.heap.size) := ⟨T12, o12, HT11.out.tn.size, T12.tn.size⟩
          have HSL : Hid ((strs Qc Qt Qf).length ≤ 5000000) := by
            show (strs Qc Qt Qf).length ≤ _
            rw [strs_len]
            have := HC.out.2.1
            have := HTT.out.2.1
            omega
          obtain ⟨a12, c12', e12⟩ := own_slice o12
          subst e12
          have HUL : Hid (Us.length ≤ 20000000) := by have := HP.out.2.2.1; show Us.length ≤ _; omega
          have s1 : a12 = none → (strs Qc Qt Qf).length = 0 ∧ c12' = 0 := fun e => by
            subst e
            rcases o12.2 with ⟨e, h0⟩ | ⟨g, cap, cur, e, _⟩
            · injection e with _ _ e
              exact ⟨h0, e⟩
            · injection e with e
              cases e
          have s2 : ∀ ad, a12 = some ad → ∀ j u, (strs Qc Qt Qf)[j]? = some u → w12.cell? (ad.add j) = some u := fun ad e j u hu => by
            subst e
            rcases o12.2 with ⟨e, h0⟩ | ⟨g, cap, cur, e, _⟩
            · injection e with e
              cases e
            · injection e with e
              have e := Option.some.inj e
              subst e
              exact o12.cells (g := g) rfl j u hu
          have s3 : ∀ u ∈ strs Qc Qt Qf, u.oneCell' = true := fun u hu => by
            unfold strs at hu
            rcases List.mem_append.1 hu with hu | hu
            · rcases List.mem_append.1 hu with hu | hu
              · obtain ⟨s, hs, _⟩ := T12.pc.strs HC.out.2.2.1 HK.out.2.1.sh (F := Any) (fun _ _ => trivial) u hu
                exact hs.one
              · obtain ⟨s, hs, _⟩ := T12.pt.strs HTT.out.2.2.1 HK.out.2.1.sc (F := Any) (fun _ _ => trivial) u hu
                exact hs.one
            · obtain ⟨s, hs, _⟩ := T12.pf.strs HFF.out.1 HK.out.2.1.sf (F := Any) (fun _ _ => trivial) u hu
              exact hs.one
          have HSC : Hid ((a12 = none → (strs Qc Qt Qf).length = 0 ∧ c12' = 0) ∧ (∀ ad, a12 = some ad → ∀ j u, (strs Qc Qt Qf)[j]? = some u → w12.cell? (ad.add j) = some u) ∧ ∀ u ∈ strs Qc Qt Qf, u.oneCell' = true) := ⟨s1, s2, s3⟩
          clear s1 s2 s3
          clear T12 o12 b12 c12 HT11
          by_cases hp1 : p = 1
          · subst hp1
            go_wp2_with (at_builtin; refine wpList_append_all (by rfl) _ _ (by rfl) w.heap.size u5 Us.length Us (by rfl) HT12.out.1.own a12 (strs Qc Qt Qf).length c12' (strs Qc Qt Qf) (by rfl) rfl HSC.out.1 HSC.out.2.1 HSC.out.2.2 (by have := HSL.out; have := HUL.out; omega) HT12.out.2.2.2 ?_; intro v13 w13 own13 gr13)
            have T13 : Turn (fun i => u5.ownBlock = some i) w12 w13 := Turn.of_grown gr13 (fun k e => e)
            have B13 : Below w.heap.size w12 w13 := T13.below (fun i q => (HT12.out.1.own.lt i q).1) HT12.out.2.2.2
            have k13 : Book w13 B sb st F := HT12.out.1.bk.turn T13 (fun i q z => by have := HK.out.1.lim i q; have := (HT12.out.1.own.lt i z).1; omega)
            have q13 : RB w13 B qb st G := HT12.out.1.rb.turn T13 (fun z => by have := (HT12.out.1.own.lt qb z).1; have := HK.out.1.ql; omega) (fun i hi z => by have := (HT12.out.1.own.lt i z).1; have := HK.out.1.gl i hi; omega)
            have t13 : Turn F w w13 := HT12.out.1.tn.trans T13 (fun i q => Or.inr (HT12.out.1.own.lt i q).1)
            have nv : ∀ (s : List Nat) (y : Value) (F' : Nat → Prop), Str w12 F' y s → Str w13 F' y s := fun s y F' hy => ⟨own_turn hy.own T13 (fun g hg z => by
              obtain ⟨cur, hc⟩ := own_block HT12.out.1.own z
              exact hy.ne hc (by decide) hg), hy.foot, hy.ok⟩
            have us13 : 1 ≤ 1 → ∀ u ∈ Us ++ strs Qc Qt Qf, ∃ s, Str w13 (fun i => w.heap.size ≤ i) u s ∧ s.length ≤ 140737488351232 := fun hp1 u hu => by
              have old : ∃ s, Str w12 (fun i => w.heap.size ≤ i) u s ∧ s.length ≤ 140737488351232 := by
                rcases List.mem_append.1 hu with hu | hu
                · exact HT12.out.1.us hp1 u hu
                · unfold strs at hu
                  rcases List.mem_append.1 hu with hu | hu
                  · rcases List.mem_append.1 hu with hu | hu
                    · exact HT12.out.1.pc.strs HC.out.2.2.1 HK.out.2.1.sh (fun i q => Nat.le_trans HL.out.1 q) u hu
                    · exact HT12.out.1.pt.strs HTT.out.2.2.1 HK.out.2.1.sc (fun i q => Nat.le_trans HL.out.2.1 q) u hu
                  · exact HT12.out.1.pf.strs HFF.out.1 HK.out.2.1.sf (fun i q => Nat.le_trans HL.out.2.2.1 q) u hu
              obtain ⟨s, hs, hl⟩ := old
              exact ⟨s, nv s u _ hs, hl⟩
            have sp13 : 1 ≤ 1 → (Us ++ strs Qc Qt Qf).Pairwise Sep := fun hp1 => sep_app (HP.out.1 hp1) (HP.out.2.1 hp1) HC.out.2.2.2.1 HTT.out.2.2.2.1 HFF.out.2.2.2.1 HC.out.2.2.2.2 HTT.out.2.2.2.2 HFF.out.2.2.2.2 HL.out.2.2.2.1 HL.out.2.2.2.2
            have el13 : (Us ++ strs Qc Qt Qf).length = Us.length + (strs Qc Qt Qf).length := List.length_append
            rw [← el13] at own13
            have hl13 : (Us ++ strs Qc Qt Qf).length ≤ (1 + 1) * 10000000 := by
              rw [el13]
              have := HSL.out
              have := HP.out.2.2.1
              omega
            obtain ⟨U, eU⟩ : ∃ U, U = Us ++ strs Qc Qt Qf := ⟨_, rfl⟩
            rw [← eU] at own13 us13 sp13 hl13
            obtain ⟨a13, c13, e13⟩ := own_slice own13
            subst e13
            have H13 : Hid (Book w13 B sb st F ∧ RB w13 B qb st G ∧ Turn F w w13 ∧ w13.ownsRow w.heap.size 26 1 (.slice a13 U.length c13) U.length U ∧ U.length ≤ (1 + 1) * 10000000 ∧ (1 ≤ 1 → (∀ u ∈ U, ∃ s, Str w13 (fun i => w.heap.size ≤ i) u s ∧ s.length ≤ 140737488351232) ∧ U.Pairwise Sep)) := ⟨k13, q13, t13, own13, hl13, fun h => ⟨us13 h, sp13 h⟩⟩
            clear T13 B13 k13 q13 t13 nv us13 sp13 el13 own13 hl13 eU gr13 HT12 HSC
            have ap := apart_any5 w13 w.heap.size a13 c13 U H13.out.2.2.2.1 (fun u hu => by
              obtain ⟨s, hs, hl⟩ := (H13.out.2.2.2.2.2 (Nat.le_refl _)).1 u hu
              exact ⟨s, hs.mono (fun _ _ => trivial), hl⟩) (H13.out.2.2.2.2.2 (Nat.le_refl _)).2 (by have := H13.out.2.2.2.2.1; omega)
            refine ap.mono ?_
            rintro _ w14 ⟨rfl, t14⟩
            have lo : ∀ i, Blk U i → w.heap.size ≤ i := fun i q => by
              obtain ⟨u, hu, hg⟩ := q
              obtain ⟨s, hs, _⟩ := (H13.out.2.2.2.2.2 (Nat.le_refl _)).1 u hu
              exact hs.foot i hg
            have H14 : Hid (Book w14 B sb st F ∧ RB w14 B qb st G ∧ Turn F w w14 ∧ w14.ownsRow w.heap.size 26 1 (.slice a13 U.length c13) U.length U ∧ U.length ≤ 2 * 10000000) := ⟨H13.out.1.turn t14 (fun i q z => by have := HK.out.1.lim i q; have := lo i z; omega), H13.out.2.1.turn t14 (fun z => by have := lo qb z; have := HK.out.1.ql; omega) (fun i hi z => by have := lo i z; have := HK.out.1.gl i hi; omega), H13.out.2.2.1.trans t14 (fun i q => Or.inr (lo i q)), own_turn H13.out.2.2.2.1 t14 (fun g hg z => by
              obtain ⟨u, hu, hg2⟩ := z
              obtain ⟨s, hs, _⟩ := (H13.out.2.2.2.2.2 (Nat.le_refl _)).1 u hu
              obtain ⟨cur, hc⟩ := own_block H13.out.2.2.2.1 hg
              exact hs.ne hc (by decide) hg2), H13.out.2.2.2.2.1⟩
            clear t14 lo ap H13
            go_wp2_with fail
            go_roundg (3 - (1 + 1))
            case measure => omega
            case rel => exact ⟨2, U, by omega, rfl, by go_num, H14.out.1, H14.out.2.1, H14.out.2.2.1, H14.out.2.2.2.1, H14.out.2.2.2.2, fun h => absurd h (by omega)⟩
          · have i3 : ((p : Int) == 1) = false := by simp; omega
            go_wp2_with (at_builtin; refine wpList_append_all (by rfl) _ _ (by rfl) w.heap.size u5 Us.length Us (by rfl) HT12.out.1.own a12 (strs Qc Qt Qf).length c12' (strs Qc Qt Qf) (by rfl) rfl HSC.out.1 HSC.out.2.1 HSC.out.2.2 (by have := HSL.out; have := HUL.out; omega) HT12.out.2.2.2 ?_; intro v13 w13 own13 gr13)
            have T13 : Turn (fun i => u5.ownBlock = some i) w12 w13 := Turn.of_grown gr13 (fun k e => e)
            have B13 : Below w.heap.size w12 w13 := T13.below (fun i q => (HT12.out.1.own.lt i q).1) HT12.out.2.2.2
            have k13 : Book w13 B sb st F := HT12.out.1.bk.turn T13 (fun i q z => by have := HK.out.1.lim i q; have := (HT12.out.1.own.lt i z).1; omega)
            have q13 : RB w13 B qb st G := HT12.out.1.rb.turn T13 (fun z => by have := (HT12.out.1.own.lt qb z).1; have := HK.out.1.ql; omega) (fun i hi z => by have := (HT12.out.1.own.lt i z).1; have := HK.out.1.gl i hi; omega)
            have t13 : Turn F w w13 := HT12.out.1.tn.trans T13 (fun i q => Or.inr (HT12.out.1.own.lt i q).1)
            have nv : ∀ (s : List Nat) (y : Value) (F' : Nat → Prop), Str w12 F' y s → Str w13 F' y s := fun s y F' hy => ⟨own_turn hy.own T13 (fun g hg z => by
              obtain ⟨cur, hc⟩ := own_block HT12.out.1.own z
              exact hy.ne hc (by decide) hg), hy.foot, hy.ok⟩
            have us13 : p ≤ 1 → ∀ u ∈ Us ++ strs Qc Qt Qf, ∃ s, Str w13 (fun i => w.heap.size ≤ i) u s ∧ s.length ≤ 140737488351232 := fun hp1 u hu => by
              have old : ∃ s, Str w12 (fun i => w.heap.size ≤ i) u s ∧ s.length ≤ 140737488351232 := by
                rcases List.mem_append.1 hu with hu | hu
                · exact HT12.out.1.us hp1 u hu
                · unfold strs at hu
                  rcases List.mem_append.1 hu with hu | hu
                  · rcases List.mem_append.1 hu with hu | hu
                    · exact HT12.out.1.pc.strs HC.out.2.2.1 HK.out.2.1.sh (fun i q => Nat.le_trans HL.out.1 q) u hu
                    · exact HT12.out.1.pt.strs HTT.out.2.2.1 HK.out.2.1.sc (fun i q => Nat.le_trans HL.out.2.1 q) u hu
                  · exact HT12.out.1.pf.strs HFF.out.1 HK.out.2.1.sf (fun i q => Nat.le_trans HL.out.2.2.1 q) u hu
              obtain ⟨s, hs, hl⟩ := old
              exact ⟨s, nv s u _ hs, hl⟩
            have sp13 : p ≤ 1 → (Us ++ strs Qc Qt Qf).Pairwise Sep := fun hp1 => sep_app (HP.out.1 hp1) (HP.out.2.1 hp1) HC.out.2.2.2.1 HTT.out.2.2.2.1 HFF.out.2.2.2.1 HC.out.2.2.2.2 HTT.out.2.2.2.2 HFF.out.2.2.2.2 HL.out.2.2.2.1 HL.out.2.2.2.2
            have el13 : (Us ++ strs Qc Qt Qf).length = Us.length + (strs Qc Qt Qf).length := List.length_append
            rw [← el13] at own13
            have hl13 : (Us ++ strs Qc Qt Qf).length ≤ (p + 1) * 10000000 := by
              rw [el13]
              have := HSL.out
              have := HP.out.2.2.1
              omega
            obtain ⟨U, eU⟩ : ∃ U, U = Us ++ strs Qc Qt Qf := ⟨_, rfl⟩
            rw [← eU] at own13 us13 sp13 hl13
            obtain ⟨a13, c13, e13⟩ := own_slice own13
            subst e13
            have H13 : Hid (Book w13 B sb st F ∧ RB w13 B qb st G ∧ Turn F w w13 ∧ w13.ownsRow w.heap.size 26 1 (.slice a13 U.length c13) U.length U ∧ U.length ≤ (p + 1) * 10000000 ∧ (p ≤ 1 → (∀ u ∈ U, ∃ s, Str w13 (fun i => w.heap.size ≤ i) u s ∧ s.length ≤ 140737488351232) ∧ U.Pairwise Sep)) := ⟨k13, q13, t13, own13, hl13, fun h => ⟨us13 h, sp13 h⟩⟩
            clear T13 B13 k13 q13 t13 nv us13 sp13 el13 own13 hl13 eU gr13 HT12 HSC
            go_roundg (3 - (p + 1))
            case measure => omega
            case rel => exact ⟨p + 1, U, hp3, rfl, by go_num, H13.out.1, H13.out.2.1, H13.out.2.2.1, H13.out.2.2.2.1, H13.out.2.2.2.2.1, fun h => H13.out.2.2.2.2.2 (by omega)⟩
    · have ep : p = 3 := by omega
      subst ep
      have lc := len_any5 wr B sb st F hb
      have HB3 : Hid (Book wr B sb st F ∧ RB wr B qb st G ∧ Turn F w wr) := ⟨hb, hq, ht⟩
      clear hb hq ht ho hl hu
      go_wp2_with fail
      refine lc.mono ?_
      rintro _ w20 ⟨rfl, k20, t20⟩
      have q20 : RB w20 B qb st G := HB3.out.2.1.turn t20 HK.out.1.q HK.out.1.g
      have H20 : Hid (Book w20 B sb st F ∧ RB w20 B qb st G ∧ Turn F w w20) := ⟨k20, q20, HB3.out.2.2.trans t20 (fun i q => Or.inl q)⟩
      obtain ⟨sa, sB, sc, ah, ch, ac, cc, af, cf, Qh, Qc, Qf, hk⟩ := q20
      have e3 : w20.cell? ⟨qb, 3, none⟩ = some (.slice ah st.LH.length ch) := by rw [← map_len hk.eh]; exact hk.row.cell (i := 3) (by decide)
      have e4 : w20.cell? ⟨qb, 4, none⟩ = some (.slice ac st.LC.length cc) := by rw [← map_len hk.ec]; exact hk.row.cell (i := 4) (by decide)
      clear hk k20 t20 lc HB3
      go_wp2_with fail
      go_ret
      exact ⟨rfl, H20.out⟩
end Go.Proofs.YtlhllbggnpcoaaaGreatDoor
