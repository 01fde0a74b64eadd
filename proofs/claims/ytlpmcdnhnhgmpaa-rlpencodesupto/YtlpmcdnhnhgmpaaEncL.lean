/-
  RlpEncodes: the law.
-/
import Derived.Test.YtlpmcdnhnhgmpaaREn
import Derived.Test.YtlpmcdnhnhgmpaaNm2
import Derived.Test.YtlpmcdnhnhgmpaaNm3
import Derived.Test.YtlpmcdnhnhgmpaaApt
import Derived.Test.YtlpmcdnhnhgmpaaAw
import Derived.Test.YtlpmcdnhnhgmpaaItx
import Derived.Test.YtlpmcdnhnhgmpaaBk
import Derived.Test.YtlpmcdnhnhgmpaaSam
import Derived.Test.YtlpmcdnhnhgmpaaYr
import Derived.Shelf.Abstract
import Derived.Great.BuildSlice
namespace Go.Proofs.Ytlpmcdnhnhgmpaa
open Go.RowKit

def anS : List Nat := [97, 110, 111, 116, 104, 101, 114, 32, 111, 110, 101]
def anI : It := .mk false anS []
def anB : List Nat := [139, 97, 110, 111, 116, 104, 101, 114, 32, 111, 110, 101]
theorem an_encE : encE anI = 0 := by rfl
theorem an_enc : enc anI = anB := by rfl
theorem str_vb {w : World} {F : Nat → Prop} {v : Value} {s : List Nat} (h : Str w F v s) (hl : s.length ≤ 140737488351232) : Vb w v s := vb_of_own h.own rfl h.ok.2 hl
theorem enc_len (x : It) : (enc x).length ≤ 1048576 := by
  unfold enc
  split
  · rename_i h
    unfold encE at h
    split at h
    · omega
    · split at h
      · omega
      · split at h
        · omega
        · omega
  · simp
theorem nuB_len (n : Int) (h : n ≤ 9223372036854775807) : (nuB n).length ≤ 8 := by
  unfold nuB
  split
  · simp
  · exact digs_len_le (by omega)
theorem Str.below {w w' : World} {F : Nat → Prop} {v : Value} {s : List Nat} (h : Str w F v s) (k : Below w.heap.size w w') : Str w' F v s := ⟨own_same h.own (fun g hg => k.block g (h.own.lt g hg).2), h.foot, h.ok⟩
theorem Str.slice {w : World} {F : Nat → Prop} {v : Value} {s : List Nat} (h : Str w F v s) : ∃ a c, v = .slice a s.length c := own_slice h.own
theorem fillB5 (a0 a1 a2 a3 a4 : Option Addr) (n0 n1 n2 n3 n4 c0 c1 c2 c3 c4 : Nat) : Instr.fill (fun i => some (i * 1, 1)) ((Array.range (5 * 1)).map (nilS.cells[· % nilS.cells.size]!)) [(0, .slice a0 n0 c0), (1, .slice a1 n1 c1), (2, .slice a2 n2 c2), (3, .slice a3 n3 c3), (4, .slice a4 n4 c4)] = some #[.slice a0 n0 c0, .slice a1 n1 c1, .slice a2 n2 c2, .slice a3 n3 c3, .slice a4 n4 c4] := by kernel_rfl
section
variable {ops : Array Oper} {S : World → Prop} {o : Oper} {a : Act}
theorem r_build5 {Q : Exit → Act → World → Prop} {w : World} {K : Act → World → Prop} {E : Prop} (y0 y1 y2 y3 y4 : Operand) (ho : o.op = .buildSlice 50 5 #[(0, y0), (1, y1), (2, y2), (3, y3), (4, y4)]) (hw : Region.wanted o (yielded ops a.tmps) = true) (a0 a1 a2 a3 a4 : Option Addr) (n0 n1 n2 n3 n4 c0 c1 c2 c3 c4 : Nat)
    (e0 : a.eval y0 = .slice a0 n0 c0) (e1 : a.eval y1 = .slice a1 n1 c1) (e2 : a.eval y2 = .slice a2 n2 c2) (e3 : a.eval y3 = .slice a3 n3 c3) (e4 : a.eval y4 = .slice a4 n4 c4)
    (h : K (a.put o.dst (.slice (some ⟨w.heap.size, 0, none⟩) 5 5)) (w.alloc (.cells #[.slice a0 n0 c0, .slice a1 n1 c1, .slice a2 n2 c2, .slice a3 n3 c3, .slice a4 n4 c4] 22))) :
    if Region.wanted o (yielded ops a.tmps) = true then Oper.wp Try.prog o a w K Q else E := by
  rw [if_pos hw]
  obtain ⟨i0, hi0, hz0, hz1, hz2⟩ := info_parts infoB
  refine wp_buildSlice 50 22 5 _ ho _ i0 _ Try.underlying50 hi0 hz0 (by rw [hz1]; decide) (by rw [hz1]; decide) ?_ h
  rw [hz1]
  simp only [List.map_toArray, List.map_cons, List.map_nil, e0, e1, e2, e3, e4]
  exact fillB5 _ _ _ _ _ _ _ _ _ _ _ _ _ _ _
end
theorem apart_any5 (w : World) (B : Nat) (al : Option Addr) (cl : Nat) (Us : List Value) (hl : w.ownsRow B 22 1 (.slice al Us.length cl) Us.length Us) (hs : ∀ u ∈ Us, ∃ s, Str w Any u s ∧ s.length ≤ 140737488351232) (sep : Us.Pairwise Sep) (hn : Us.length ≤ 274877906944) :
    Calls Try.prog 18 #[.slice al Us.length cl] w fun e w' => e = .returned (.bool true) ∧ Turn (Blk Us) w w' := by
  have h : ∀ r : Nat, ∃ s : List Nat, ∀ u, Us[r]? = some u → Str w Any u s ∧ s.length ≤ 140737488351232 := fun r => by
    cases e : Us[r]? with
    | none => exact ⟨[], fun u hu => by cases hu⟩
    | some u =>
      obtain ⟨s, hs⟩ := hs u (List.mem_of_getElem? e)
      exact ⟨s, fun u' hu' => by have := Option.some.inj hu'; subst this; exact hs⟩
  obtain ⟨M0, hM⟩ := Classical.axiomOfChoice h
  exact apart_any4 w B al cl Us M0 hl (fun r u hu => (hM r u hu).1) sep (fun r hr => (hM r _ (List.getElem?_eq_getElem hr)).2) hn
/-- strings in intervals of blocks, one behind the other in some order -/
structure In (w : World) (lo hi : Nat) (v : Value) : Prop where
  str : ∃ s, Str w Any v s ∧ s.length ≤ 140737488351232
  lo : ∀ g, v.ownBlock = some g → lo ≤ g
  hi : ∀ g, v.ownBlock = some g → g < hi
theorem In.sep {w : World} {l1 h1 l2 h2 : Nat} {u v : Value} (a : In w l1 h1 u) (b : In w l2 h2 v) (h : h1 ≤ l2 ∨ h2 ≤ l1) : Sep u v := fun g q1 q2 => by
  have := a.lo g q1
  have := a.hi g q1
  have := b.lo g q2
  have := b.hi g q2
  omega
theorem In.below {w w' : World} {lo hi : Nat} {v : Value} (h : In w lo hi v) (k : Below w.heap.size w w') : In w' lo hi v := by
  obtain ⟨s, hs, hl⟩ := h.str
  exact ⟨⟨s, hs.below k, hl⟩, h.lo, h.hi⟩
theorem back_any' (x : It) (w : World) (vb vi : Value) (l : Bool) (hl : l = x.l) (h : Lies Vb w x vb vi) :
    Calls Try.prog 11 #[iv l vb vi] w fun e w' => ∃ vb' vi', e = .returned (iv l vb' vi') ∧ Og 34 [] w' w.heap.size w'.heap.size x vb' vi' ∧ Below w.heap.size w w' := by
  rw [hl]
  exact back_any x w vb vi h
theorem same_any' (x : It) (w : World) (vb vi vb' vi' : Value) (l : Bool) (hl : l = x.l) (h : Lies Vb w x vb vi) (h' : Lies Vb w x vb' vi') :
    Calls Try.prog 10 #[iv l vb vi, iv l vb' vi'] w fun e w' => e = .returned (.bool true) ∧ Below w.heap.size w w' := by
  rw [hl]
  exact same_any x w vb vi vb' vi' h h'
theorem marked_any' (x : It) (w : World) (vb vi : Value) (l : Bool) (hl : l = x.l) (h : Lies (Sx [90]) w x vb vi) :
    Calls Try.prog 24 #[iv l vb vi] w fun e w' => e = .returned (.bool true) ∧ Below w.heap.size w w' := by
  rw [hl]
  exact marked_any x w vb vi h
theorem eBack : ∀ args w, (callFunc 11 args).run Try.prog w = .ok (.enter 11 args) w := enters_of Try.func11 (by kernel_rfl) rfl
theorem eSame : ∀ args w, (callFunc 10 args).run Try.prog w = .ok (.enter 10 args) w := enters_of Try.func10 (by kernel_rfl) rfl
theorem eMark : ∀ args w, (callFunc 24 args).run Try.prog w = .ok (.enter 24 args) w := enters_of Try.func24 (by kernel_rfl) rfl
theorem eApart : ∀ args w, (callFunc 18 args).run Try.prog w = .ok (.enter 18 args) w := enters_of Try.func18 (by kernel_rfl) rfl

set_option maxRecDepth 100000 in
set_option maxHeartbeats 6400000 in
theorem encodes_any (w : World) (x : It) (vb vi : Value) (h : Lies Vb w x vb vi) (hfl : (form x).length ≤ 1099511627776) (n : Int) (hn1 : -9223372036854775808 ≤ n) (hn2 : n ≤ 9223372036854775807) :
    Calls Try.prog 7 #[iv x.l vb vi, .int .i64 n] w fun e w' => e = .returned (.bool true) ∧ Below w.heap.size w w' := by
  have cv1 : ∀ W : World, (convert 22 22 (.slice (some ⟨W.heap.size, 0, none⟩) 11 11)).run Try.prog (W.alloc (.cells #[.int .u8 97, .int .u8 110, .int .u8 111, .int .u8 116, .int .u8 104, .int .u8 101, .int .u8 114, .int .u8 32, .int .u8 111, .int .u8 110, .int .u8 101] 5)) = .ok (.slice (some ⟨W.heap.size, 0, none⟩) 11 11) (W.alloc (.cells #[.int .u8 97, .int .u8 110, .int .u8 111, .int .u8 116, .int .u8 104, .int .u8 101, .int .u8 114, .int .u8 32, .int .u8 111, .int .u8 110, .int .u8 101] 5 (11, 12))) := fun W => Lib.run_convert_bytes_const (P := Try.prog) W 22 5 #[.int .u8 97, .int .u8 110, .int .u8 111, .int .u8 116, .int .u8 104, .int .u8 101, .int .u8 114, .int .u8 32, .int .u8 111, .int .u8 110, .int .u8 101] 11 11 Try.underlying22 Try.underlying5
  have HCV : Hid (∀ W : World, (convert 22 22 (.slice (some ⟨W.heap.size, 0, none⟩) 11 11)).run Try.prog (W.alloc (.cells #[.int .u8 97, .int .u8 110, .int .u8 111, .int .u8 116, .int .u8 104, .int .u8 101, .int .u8 114, .int .u8 32, .int .u8 111, .int .u8 110, .int .u8 101] 5)) = .ok (.slice (some ⟨W.heap.size, 0, none⟩) 11 11) (W.alloc (.cells #[.int .u8 97, .int .u8 110, .int .u8 111, .int .u8 116, .int .u8 104, .int .u8 101, .int .u8 114, .int .u8 32, .int .u8 111, .int .u8 110, .int .u8 101] 5 (11, 12)))) := cv1
  clear cv1
  obtain ⟨a1, n1, k1, a2, n2, k2, rfl, rfl⟩ := h.form
  obtain ⟨l, el⟩ : ∃ l, l = x.l := ⟨_, rfl⟩
  have HEL : Hid (l = x.l) := el
  obtain ⟨w1, ew1⟩ : ∃ w1, w1 = w.alloc (.cells #[.bool l, .slice a1 n1 k1, .slice a2 n2 k2] 34) := ⟨_, rfl⟩
  have bw1 : Below w.heap.size w w1 := by rw [ew1]; exact below_alloc w _
  have HBX : Hid (∀ wr, Below w1.heap.size w1 wr → wr.cell? ⟨w.heap.size, 0, none⟩ = some (.bool l) ∧ wr.cell? ⟨w.heap.size, 1, none⟩ = some (.slice a1 n1 k1) ∧ wr.cell? ⟨w.heap.size, 2, none⟩ = some (.slice a2 n2 k2)) := fun wr h => by
    rw [ew1] at h
    exact box_keep h
  have HW1 : Hid (w1 = w.alloc (.cells #[.bool l, .slice a1 n1 k1, .slice a2 n2 k2] 34) ∧ Below w.heap.size w w1) := ⟨ew1, bw1⟩
  have HL : Hid (∀ wr, Below w1.heap.size w1 wr → Lies Vb wr x (.slice a1 n1 k1) (.slice a2 n2 k2)) := fun wr k => h.keep (ch bw1 k)
  obtain ⟨EX, eEX⟩ : ∃ EX, EX = encE x := ⟨_, rfl⟩
  obtain ⟨s, es⟩ : ∃ s, s = enc x := ⟨_, rfl⟩
  obtain ⟨nS, enS⟩ : ∃ nS, nS = s.length := ⟨_, rfl⟩
  obtain ⟨u, eu⟩ : ∃ u, u = nuB n := ⟨_, rfl⟩
  obtain ⟨nU, enU⟩ : ∃ nU, nU = u.length := ⟨_, rfl⟩
  obtain ⟨EN, eEN⟩ : ∃ EN, EN = nuE n := ⟨_, rfl⟩
  obtain ⟨IV, eIV⟩ : ∃ IV, IV = intV x := ⟨_, rfl⟩
  obtain ⟨IE, eIE⟩ : ∃ IE, IE = intE x := ⟨_, rfl⟩
  have hSl : nS ≤ 1048576 := by rw [enS, es]; exact enc_len x
  have hUl : nU ≤ 8 := by rw [enU, eu]; exact nuB_len n hn2
  have HNS : Hid (nS = s.length ∧ nU = u.length) := ⟨enS, enU⟩
  have K1 := renc_any x w1 _ _ (HL.out w1 (Below.refl _ _)) hfl
  have K2 := fun wr (k : Below w1.heap.size w1 wr) => rint_any x wr _ _ (HL.out wr k)
  have K3 := fun wr => rnumber_any wr n hn1 hn2
  have K4 := fun wr (k : Below w1.heap.size w1 wr) => item_any x wr _ _ (HL.out wr k)
  have K5 := fun wr vb vi (k : Lies Vb wr x vb vi) => encode_any x wr vb vi k
  have K6 := fun wr vb vi (k : Lies Vb wr x vb vi) => int_any x wr vb vi k
  have K7 := fun wr => number_any wr n hn1 hn2
  rw [← el, ← eEX, ← es] at K1 K5
  rw [← el, ← eIV, ← eIE] at K2 K6
  rw [← eEN, ← eu] at K3 K7
  rw [← el] at K4 ⊢
  clear h el ew1 bw1 eEX es enS eu enU eEN eIV eIE hfl
  go_enter Try.func7, Try.ntmps7
  go_wp2_with fail
  rw [← HW1.out.1]
  refine K1.mono ?_
  rintro e w2 ⟨v1, rfl, s1, b2⟩
  obtain ⟨x0, x1, x2⟩ := HBX.out w2 b2
  obtain ⟨av1, cv1, ev⟩ := s1.slice
  rw [← HNS.out.1] at ev
  subst ev
  have H2 : Hid (Below w1.heap.size w1 w2 ∧ Str w2 (fun i => w1.heap.size ≤ i) (.slice av1 nS cv1) s) := ⟨b2, s1⟩
  clear K1 s1 b2
  go_wp2_with fail
  refine (K2 _ H2.out.1).mono ?_
  rintro e w3 ⟨rfl, b3⟩
  have H3 : Hid (Below w2.heap.size w2 w3 ∧ Below w1.heap.size w1 w3) := ⟨b3, ch H2.out.1 b3⟩
  clear K2 b3 x0 x1 x2
  go_wp2_with fail
  refine (K3 _).mono ?_
  rintro e w4 ⟨v3, rfl, s3, b4⟩
  obtain ⟨av3, cv3, ev⟩ := s3.slice
  rw [← HNS.out.2] at ev
  subst ev
  obtain ⟨wA, eA⟩ : ∃ wA, wA = w4.alloc (.cells #[.bool false, .slice av3 nU cv3, .slice none 0 0] 34) := ⟨_, rfl⟩
  have bA : Below w4.heap.size w4 wA := by rw [eA]; exact below_alloc _ _
  have yA : Bx wA w4.heap.size 34 (.bool false) (.slice av3 nU cv3) (.slice none 0 0) := by rw [eA]; exact heap_alloc_new _ _
  have HA : Hid (wA = w4.alloc (.cells #[.bool false, .slice av3 nU cv3, .slice none 0 0] 34) ∧ Below w1.heap.size w1 w4 ∧ Below w1.heap.size w1 wA ∧ Str wA (fun i => w3.heap.size ≤ i) (.slice av3 nU cv3) u ∧ Bx wA w4.heap.size 34 (.bool false) (.slice av3 nU cv3) (.slice none 0 0) ∧ Below w2.heap.size w2 wA) := ⟨eA, ch H3.out.2 b4, ch (ch H3.out.2 b4) bA, s3.below bA, yA, ch H3.out.1 (ch b4 bA)⟩
  obtain ⟨x0, x1, x2⟩ := HBX.out wA HA.out.2.2.1
  rw [HA.out.1] at x0 x1 x2
  clear K3 s3 b4 eA bA yA
  go_wp2_with fail
  rw [← HA.out.1]
  refine (K4 _ HA.out.2.2.1).mono ?_
  rintro e w5 ⟨vI, vJ, rfl, oI, b5⟩
  obtain ⟨c1, c2, c3, c4, c5, c6, rfl, rfl⟩ := oI.lies.form
  obtain ⟨wB, eB⟩ : ∃ wB, wB = w5.alloc (.cells #[.bool l, .slice c1 c2 c3, .slice c4 c5 c6] 25) := ⟨_, rfl⟩
  have bB : Below w5.heap.size w5 wB := by rw [eB]; exact below_alloc _ _
  have yB : Bx wB w5.heap.size 25 (.bool l) (.slice c1 c2 c3) (.slice c4 c5 c6) := by rw [eB]; exact heap_alloc_new _ _
  have HB : Hid (wB = w5.alloc (.cells #[.bool l, .slice c1 c2 c3, .slice c4 c5 c6] 25) ∧ Below wA.heap.size wA w5 ∧ Below wA.heap.size wA wB ∧ Og 25 [90] wB wA.heap.size w5.heap.size x (.slice c1 c2 c3) (.slice c4 c5 c6) ∧ Bx wB w5.heap.size 25 (.bool l) (.slice c1 c2 c3) (.slice c4 c5 c6) ∧ wB.heap.size = w5.heap.size + 1) := ⟨eB, b5, ch b5 bB, oI.keep bB (Nat.le_refl _), yB, by rw [eB]; simp⟩
  clear K4 oI b5 eB bB yB x0 x1 x2
  go_wp2_with fail
  rw [← HB.out.1]
  refine (K5 _ _ _ HB.out.2.2.2.1.lies).mono ?_
  rintro e w6 ⟨v6, rfl, s6, b6⟩
  obtain ⟨av6, cv6, ev⟩ := s6.slice
  rw [← HNS.out.1] at ev
  subst ev
  have H6 : Hid (Below wB.heap.size wB w6 ∧ Str w6 (fun i => wB.heap.size ≤ i) (.slice av6 nS cv6) s) := ⟨b6, s6⟩
  obtain ⟨x0, x1, x2, -⟩ := (HB.out.2.2.2.2.1.keep (b6.block _ HB.out.2.2.2.2.1.lt)).cells
  clear s6 b6
  go_wp2_with fail
  refine (K6 _ _ _ (HB.out.2.2.2.1.lies.keep H6.out.1)).mono ?_
  rintro e w7 ⟨rfl, b7⟩
  have H7 : Hid (Below w6.heap.size w6 w7) := b7
  clear b7 x0 x1 x2 K6
  go_wp2_with fail
  refine (K7 _).mono ?_
  rintro e w8 ⟨v8, rfl, s8, b8⟩
  obtain ⟨av8, cv8, ev⟩ := s8.slice
  rw [← HNS.out.2] at ev
  subst ev
  obtain ⟨wC, eC⟩ : ∃ wC, wC = w8.alloc (.cells #[.bool false, .slice av8 nU cv8, .slice none 0 0] 25) := ⟨_, rfl⟩
  have bC : Below w8.heap.size w8 wC := by rw [eC]; exact below_alloc _ _
  have yC : Bx wC w8.heap.size 25 (.bool false) (.slice av8 nU cv8) (.slice none 0 0) := by rw [eC]; exact heap_alloc_new _ _
  have HC : Hid (wC = w8.alloc (.cells #[.bool false, .slice av8 nU cv8, .slice none 0 0] 25) ∧ Below w6.heap.size w6 wC ∧ Str wC (fun i => w7.heap.size ≤ i) (.slice av8 nU cv8) u ∧ Bx wC w8.heap.size 25 (.bool false) (.slice av8 nU cv8) (.slice none 0 0)) := ⟨eC, ch H7.out (ch b8 bC), s8.below bC, yC⟩
  have H78 : Hid (w7.heap.size ≤ wC.heap.size) := Nat.le_trans b8.size bC.size
  clear s8 b8 eC bC yC
  go_wp2_with fail
  rw [← HC.out.1]
  refine (awake_any wC).mono ?_
  rintro e w9 ⟨rfl, b9⟩
  have H9 : Hid (Below wC.heap.size wC w9 ∧ Below wB.heap.size wB w9) := ⟨b9, ch H6.out.1 (ch HC.out.2.1 b9)⟩
  obtain ⟨x0, x1, x2, -⟩ := (HB.out.2.2.2.2.1.keep (H9.out.2.block _ HB.out.2.2.2.2.1.lt)).cells
  clear b9
  go_wp2_with fail
  refine (K5 _ _ _ (HB.out.2.2.2.1.lies.keep H9.out.2)).mono ?_
  rintro e w10 ⟨v10, rfl, s10, b10⟩
  obtain ⟨av10, cv10, ev⟩ := s10.slice
  rw [← HNS.out.1] at ev
  subst ev
  have H10 : Hid (Below w9.heap.size w9 w10 ∧ Str w10 (fun i => w9.heap.size ≤ i) (.slice av10 nS cv10) s) := ⟨b10, s10⟩
  clear s10 b10 x0 x1 x2 K5
  obtain ⟨wD, eD⟩ : ∃ wD, wD = w10.alloc (.cells #[.int .u8 97, .int .u8 110, .int .u8 111, .int .u8 116, .int .u8 104, .int .u8 101, .int .u8 114, .int .u8 32, .int .u8 111, .int .u8 110, .int .u8 101] 5 (11, 12)) := ⟨_, rfl⟩
  have bD : Below w10.heap.size w10 wD := by rw [eD]; exact below_alloc _ _
  have vD : Vb wD (.slice (some ⟨w10.heap.size, 0, none⟩) 11 11) anS := vb_row (s := anS) (fr := (11, 12)) (by rw [eD]; exact heap_alloc_new _ _) (by decide) (by decide)
  have K8 := encode_any anI wD _ _ (lies_str vD)
  rw [an_encE, an_enc, show anI.l = false from rfl] at K8
  have HD : Hid (wD = w10.alloc (.cells #[.int .u8 97, .int .u8 110, .int .u8 111, .int .u8 116, .int .u8 104, .int .u8 101, .int .u8 114, .int .u8 32, .int .u8 111, .int .u8 110, .int .u8 101] 5 (11, 12)) ∧ Below w10.heap.size w10 wD) := ⟨eD, bD⟩
  have cvx := HCV.out w10
  clear eD bD vD
  go_wp2_with fail
  rw [← HD.out.1]
  refine K8.mono ?_
  rintro e w12 ⟨v12, rfl, s12, b12⟩
  obtain ⟨av12, cv12, ev⟩ := s12.slice
  rw [show anB.length = 12 from rfl] at ev
  subst ev
  have H12 : Hid (Below wD.heap.size wD w12 ∧ Str w12 (fun i => wD.heap.size ≤ i) (.slice av12 12 cv12) anB) := ⟨b12, s12⟩
  clear s12 b12 cvx K8
  go_wp2_with fail
  refine (K7 _).mono ?_
  rintro e w13 ⟨v13, rfl, s13, b13⟩
  obtain ⟨av13, cv13, ev⟩ := s13.slice
  rw [← HNS.out.2] at ev
  subst ev
  obtain ⟨wE, eE⟩ : ∃ wE, wE = w13.alloc (.cells #[.bool false, .slice av13 nU cv13, .slice none 0 0] 25) := ⟨_, rfl⟩
  have bE : Below w13.heap.size w13 wE := by rw [eE]; exact below_alloc _ _
  have yE : Bx wE w13.heap.size 25 (.bool false) (.slice av13 nU cv13) (.slice none 0 0) := by rw [eE]; exact heap_alloc_new _ _
  have HE : Hid (wE = w13.alloc (.cells #[.bool false, .slice av13 nU cv13, .slice none 0 0] 25) ∧ Below w12.heap.size w12 wE ∧ Str wE (fun i => w12.heap.size ≤ i) (.slice av13 nU cv13) u ∧ Bx wE w13.heap.size 25 (.bool false) (.slice av13 nU cv13) (.slice none 0 0)) := ⟨eE, ch b13 bE, s13.below bE, yE⟩
  clear s13 b13 eE bE yE K7
  go_wp2_with fail
  rw [← HE.out.1]
  -- what the rest knows of the world
  have BE : Below wB.heap.size wB wE := ch H9.out.2 (ch H10.out.1 (ch HD.out.2 (ch H12.out.1 HE.out.2.1)))
  have BA : Below wA.heap.size wA wE := ch HB.out.2.2.1 BE
  have B1E : Below w1.heap.size w1 wE := ch HA.out.2.2.1 BA
  have B2E : Below w2.heap.size w2 wE := ch HA.out.2.2.2.2.2 BA
  have B6 : Below w6.heap.size w6 wE := ch (ch HC.out.2.1 H9.out.1) (ch H10.out.1 (ch HD.out.2 (ch H12.out.1 HE.out.2.1)))
  have BC : Below wC.heap.size wC wE := ch H9.out.1 (ch H10.out.1 (ch HD.out.2 (ch H12.out.1 HE.out.2.1)))
  have B10 : Below w10.heap.size w10 wE := ch HD.out.2 (ch H12.out.1 HE.out.2.1)
  have B12 : Below w12.heap.size w12 wE := HE.out.2.1
  have T1 : Str wE (fun i => w1.heap.size ≤ i) (.slice av1 nS cv1) s := H2.out.2.below B2E
  have T3 : Str wE (fun i => w3.heap.size ≤ i) (.slice av3 nU cv3) u := HA.out.2.2.2.1.below BA
  have T6 : Str wE (fun i => wB.heap.size ≤ i) (.slice av6 nS cv6) s := H6.out.2.below B6
  have T8 : Str wE (fun i => w7.heap.size ≤ i) (.slice av8 nU cv8) u := HC.out.2.2.1.below BC
  have T10 : Str wE (fun i => w9.heap.size ≤ i) (.slice av10 nS cv10) s := H10.out.2.below B10
  have T12 : Str wE (fun i => wD.heap.size ≤ i) (.slice av12 12 cv12) anB := H12.out.2.below B12
  have T13 : Str wE (fun i => w12.heap.size ≤ i) (.slice av13 nU cv13) u := HE.out.2.2.1
  have HT : Hid ((Str wE (fun i => w1.heap.size ≤ i) (.slice av1 nS cv1) s ∧ Str wE (fun i => w3.heap.size ≤ i) (.slice av3 nU cv3) u ∧ Str wE (fun i => wB.heap.size ≤ i) (.slice av6 nS cv6) s ∧ Str wE (fun i => w7.heap.size ≤ i) (.slice av8 nU cv8) u) ∧ Str wE (fun i => w9.heap.size ≤ i) (.slice av10 nS cv10) s ∧ Str wE (fun i => wD.heap.size ≤ i) (.slice av12 12 cv12) anB ∧ Str wE (fun i => w12.heap.size ≤ i) (.slice av13 nU cv13) u) := ⟨⟨T1, T3, T6, T8⟩, T10, T12, T13⟩
  have HBE : Hid (Below wB.heap.size wB wE ∧ Below wA.heap.size wA wE ∧ Below w1.heap.size w1 wE) := ⟨BE, BA, B1E⟩
  have X4 : Bx wE w4.heap.size 34 (.bool false) (.slice av3 nU cv3) (.slice none 0 0) := HA.out.2.2.2.2.1.keep (BA.block _ HA.out.2.2.2.2.1.lt)
  have X5 : Bx wE w5.heap.size 25 (.bool l) (.slice c1 c2 c3) (.slice c4 c5 c6) := HB.out.2.2.2.2.1.keep (BE.block _ HB.out.2.2.2.2.1.lt)
  have X8 : Bx wE w8.heap.size 25 (.bool false) (.slice av8 nU cv8) (.slice none 0 0) := HC.out.2.2.2.keep (BC.block _ HC.out.2.2.2.lt)
  have X13 : Bx wE w13.heap.size 25 (.bool false) (.slice av13 nU cv13) (.slice none 0 0) := HE.out.2.2.2
  have HX : Hid (Bx wE w4.heap.size 34 (.bool false) (.slice av3 nU cv3) (.slice none 0 0) ∧ Bx wE w5.heap.size 25 (.bool l) (.slice c1 c2 c3) (.slice c4 c5 c6) ∧ Bx wE w8.heap.size 25 (.bool false) (.slice av8 nU cv8) (.slice none 0 0) ∧ Bx wE w13.heap.size 25 (.bool false) (.slice av13 nU cv13) (.slice none 0 0)) := ⟨X4, X5, X8, X13⟩
  clear BE BA B1E B2E B6 BC B10 B12 T1 T3 T6 T8 T10 T12 T13 X4 X5 X8 X13
  obtain ⟨SA, eSA⟩ : ∃ SA, SA = str nS (fun i => ((gd s i : Nat) : Int)) := ⟨_, rfl⟩
  have eSB : str 12 (fun i => ((gd anB i : Nat) : Int)) = { data := #[139, 97, 110, 111, 116, 104, 101, 114, 32, 111, 110, 101] } := by rfl
  have HS : Hid (∀ w', Below wE.heap.size wE w' → ((convert 22 9 (.slice av6 nS cv6)).run Try.prog w' = .ok (.string SA) w' ∧ (convert 22 9 (.slice av1 nS cv1)).run Try.prog w' = .ok (.string SA) w' ∧ (convert 22 9 (.slice av10 nS cv10)).run Try.prog w' = .ok (.string SA) w' ∧ (convert 22 9 (.slice av12 12 cv12)).run Try.prog w' = .ok (.string { data := #[139, 97, 110, 111, 116, 104, 101, 114, 32, 111, 110, 101] }) w')
      ∧ (w'.cell? ⟨w8.heap.size, 0, none⟩ = some (.bool false) ∧ w'.cell? ⟨w8.heap.size, 1, none⟩ = some (.slice av8 nU cv8) ∧ w'.cell? ⟨w8.heap.size, 2, none⟩ = some (.slice none 0 0))
      ∧ (w'.cell? ⟨w13.heap.size, 0, none⟩ = some (.bool false) ∧ w'.cell? ⟨w13.heap.size, 1, none⟩ = some (.slice av13 nU cv13) ∧ w'.cell? ⟨w13.heap.size, 2, none⟩ = some (.slice none 0 0))
      ∧ (w'.cell? ⟨w4.heap.size, 0, none⟩ = some (.bool false) ∧ w'.cell? ⟨w4.heap.size, 1, none⟩ = some (.slice av3 nU cv3) ∧ w'.cell? ⟨w4.heap.size, 2, none⟩ = some (.slice none 0 0))
      ∧ (w'.cell? ⟨w5.heap.size, 0, none⟩ = some (.bool l) ∧ w'.cell? ⟨w5.heap.size, 1, none⟩ = some (.slice c1 c2 c3) ∧ w'.cell? ⟨w5.heap.size, 2, none⟩ = some (.slice c4 c5 c6))
      ∧ (w'.cell? ⟨w.heap.size, 0, none⟩ = some (.bool l) ∧ w'.cell? ⟨w.heap.size, 1, none⟩ = some (.slice a1 n1 k1) ∧ w'.cell? ⟨w.heap.size, 2, none⟩ = some (.slice a2 n2 k2))) := fun w' k => by
    have cvt : ∀ {F : Nat → Prop} {a : Option Addr} {n c : Nat} {t : List Nat}, n = t.length → Str wE F (.slice a n c) t → (convert 22 9 (.slice a n c)).run Try.prog w' = .ok (.string (str n (fun i => ((gd t i : Nat) : Int)))) w' := fun en h => by
      obtain ⟨a', g, c', e, -, v, -⟩ := (h.below k).view
      injection e with e1 e2 e3
      subst e1
      subst e3
      rw [en]
      exact convert_view v _
    have q4 := (HX.out.1.keep (k.block _ HX.out.1.lt)).cells
    have q5 := (HX.out.2.1.keep (k.block _ HX.out.2.1.lt)).cells
    have q8 := (HX.out.2.2.1.keep (k.block _ HX.out.2.2.1.lt)).cells
    have q13 := (HX.out.2.2.2.keep (k.block _ HX.out.2.2.2.lt)).cells
    rw [eSA]
    exact ⟨⟨cvt HNS.out.1 HT.out.1.2.2.1, cvt HNS.out.1 HT.out.1.1, cvt HNS.out.1 HT.out.2.1, by rw [← eSB]; exact cvt rfl HT.out.2.2.1⟩, ⟨q8.1, q8.2.1, q8.2.2.1⟩, ⟨q13.1, q13.2.1, q13.2.2.1⟩, ⟨q4.1, q4.2.1, q4.2.2.1⟩, ⟨q5.1, q5.2.1, q5.2.2.1⟩, HBX.out w' (ch HBE.out.2.2 k)⟩
  have HLU : Hid (∀ w', Below wE.heap.size wE w' → Lies Vb w' (.mk false u []) (.slice av3 nU cv3) (.slice none 0 0) ∧ Lies Vb w' (.mk false u []) (.slice av8 nU cv8) (.slice none 0 0) ∧ Lies Vb w' (.mk false u []) (.slice av13 nU cv13) (.slice none 0 0)) := fun w' k => by
    have lu : u.length ≤ 140737488351232 := by have := HNS.out.2; omega
    exact ⟨lies_str (str_vb (HT.out.1.2.1.below k) lu), lies_str (str_vb (HT.out.1.2.2.2.below k) lu), lies_str (str_vb (HT.out.2.2.2.below k) lu)⟩
  have HLI : Hid (∀ w', Below wE.heap.size wE w' → Og 25 [90] w' wA.heap.size w5.heap.size x (.slice c1 c2 c3) (.slice c4 c5 c6) ∧ Lies Vb w' x (.slice a1 n1 k1) (.slice a2 n2 k2)) := fun w' k => ⟨HB.out.2.2.2.1.same (fun q q1 q2 => (k.block q (by have := HBE.out.1.size; have := HB.out.2.2.2.2.2; omega)).trans (HBE.out.1.block q (by have := HB.out.2.2.2.2.2; omega))), HL.out w' (ch HBE.out.2.2 k)⟩
  clear eSA eSB
  refine wp_region_held_drew (S := fun w' => Below wE.heap.size wE w') (by kernel_rfl) ((Below.drew (Below.refl _ _))) ?_
  intro hS
  change wpAnyH _ _ _ _ _ 50 _ _ _
  generalize wE.drew = wd at hS ⊢
  refine wpAnyH_take (i := 0) (v := (.slice av6 nS cv6)) (by simp only [List.getElem?_toArray, List.getElem?_cons_zero]; rfl) (by kernel_rfl) (by kernel_rfl) (by kernel_rfl) (by exact fun _ _ _ h => h) (y_move (by kernel_rfl) _ rfl _ rfl) hS ?_
  try simp only [Act.put, List.setIfInBounds_toArray, List.set_cons_zero, List.set_cons_succ]
  refine wpAnyH_take (i := 1) (v := (.string SA)) (by simp only [List.getElem?_toArray, List.getElem?_cons_zero, List.getElem?_cons_succ]; rfl) (by kernel_rfl) (by kernel_rfl) (by kernel_rfl) (by exact fun _ _ _ h => h) (y_conv (by kernel_rfl) _ rfl (.slice av6 nS cv6) (.string SA) rfl (fun w' hs => (HS.out w' hs).1.1)) hS ?_
  try simp only [Act.put, List.setIfInBounds_toArray, List.set_cons_zero, List.set_cons_succ]
  refine wpAnyH_take (i := 2) (v := (.slice av1 nS cv1)) (by simp only [List.getElem?_toArray, List.getElem?_cons_zero, List.getElem?_cons_succ]; rfl) (by kernel_rfl) (by kernel_rfl) (by kernel_rfl) (by exact fun _ _ _ h => h) (y_move (by kernel_rfl) _ rfl _ rfl) hS ?_
  try simp only [Act.put, List.setIfInBounds_toArray, List.set_cons_zero, List.set_cons_succ]
  refine wpAnyH_take (i := 3) (v := (.string SA)) (by simp only [List.getElem?_toArray, List.getElem?_cons_zero, List.getElem?_cons_succ]; rfl) (by kernel_rfl) (by kernel_rfl) (by kernel_rfl) (by exact fun _ _ _ h => h) (y_conv (by kernel_rfl) _ rfl (.slice av1 nS cv1) (.string SA) rfl (fun w' hs => (HS.out w' hs).1.2.1)) hS ?_
  try simp only [Act.put, List.setIfInBounds_toArray, List.set_cons_zero, List.set_cons_succ]
  refine wpAnyH_take (i := 4) (v := (.bool true)) (by simp only [List.getElem?_toArray, List.getElem?_cons_zero, List.getElem?_cons_succ]; rfl) (by kernel_rfl) (by kernel_rfl) (by kernel_rfl) (by exact fun _ _ _ h => h) (y_eqlS (by kernel_rfl) _ _ rfl _ rfl rfl) hS ?_
  try simp only [Act.put, List.setIfInBounds_toArray, List.set_cons_zero, List.set_cons_succ]
  refine wpAnyH_take (i := 5) (v := (.bool true)) (by simp only [List.getElem?_toArray, List.getElem?_cons_zero, List.getElem?_cons_succ]; rfl) (by kernel_rfl) (by kernel_rfl) (by kernel_rfl) (by exact fun _ _ _ h => h) (y_move (by kernel_rfl) _ rfl _ rfl) hS ?_
  try simp only [Act.put, List.setIfInBounds_toArray, List.set_cons_zero, List.set_cons_succ]
  refine wpAnyH_take (i := 6) (v := (.slice av10 nS cv10)) (by simp only [List.getElem?_toArray, List.getElem?_cons_zero, List.getElem?_cons_succ]; rfl) (by kernel_rfl) (by kernel_rfl) (by kernel_rfl) (by exact fun _ _ _ h => h) (y_move (by kernel_rfl) _ rfl _ rfl) hS ?_
  try simp only [Act.put, List.setIfInBounds_toArray, List.set_cons_zero, List.set_cons_succ]
  refine wpAnyH_take (i := 7) (v := (.string SA)) (by simp only [List.getElem?_toArray, List.getElem?_cons_zero, List.getElem?_cons_succ]; rfl) (by kernel_rfl) (by kernel_rfl) (by kernel_rfl) (by exact fun _ _ _ h => h) (y_conv (by kernel_rfl) _ rfl (.slice av10 nS cv10) (.string SA) rfl (fun w' hs => (HS.out w' hs).1.2.2.1)) hS ?_
  try simp only [Act.put, List.setIfInBounds_toArray, List.set_cons_zero, List.set_cons_succ]
  refine wpAnyH_take (i := 8) (v := (.slice av1 nS cv1)) (by simp only [List.getElem?_toArray, List.getElem?_cons_zero, List.getElem?_cons_succ]; rfl) (by kernel_rfl) (by kernel_rfl) (by kernel_rfl) (by exact fun _ _ _ h => h) (y_move (by kernel_rfl) _ rfl _ rfl) hS ?_
  try simp only [Act.put, List.setIfInBounds_toArray, List.set_cons_zero, List.set_cons_succ]
  refine wpAnyH_take (i := 9) (v := (.string SA)) (by simp only [List.getElem?_toArray, List.getElem?_cons_zero, List.getElem?_cons_succ]; rfl) (by kernel_rfl) (by kernel_rfl) (by kernel_rfl) (by exact fun _ _ _ h => h) (y_conv (by kernel_rfl) _ rfl (.slice av1 nS cv1) (.string SA) rfl (fun w' hs => (HS.out w' hs).1.2.1)) hS ?_
  try simp only [Act.put, List.setIfInBounds_toArray, List.set_cons_zero, List.set_cons_succ]
  refine wpAnyH_take (i := 10) (v := (.bool true)) (by simp only [List.getElem?_toArray, List.getElem?_cons_zero, List.getElem?_cons_succ]; rfl) (by kernel_rfl) (by kernel_rfl) (by kernel_rfl) (by exact fun _ _ _ h => h) (y_eqlS (by kernel_rfl) _ _ rfl _ rfl rfl) hS ?_
  try simp only [Act.put, List.setIfInBounds_toArray, List.set_cons_zero, List.set_cons_succ]
  refine wpAnyH_take (i := 11) (v := (.bool true)) (by simp only [List.getElem?_toArray, List.getElem?_cons_zero, List.getElem?_cons_succ]; rfl) (by kernel_rfl) (by kernel_rfl) (by kernel_rfl) (by exact fun _ _ _ h => h) (y_pick_t (by kernel_rfl) _ _ _ rfl _ rfl rfl) hS ?_
  try simp only [Act.put, List.setIfInBounds_toArray, List.set_cons_zero, List.set_cons_succ]
  refine wpAnyH_take (i := 12) (v := (.bool true)) (by simp only [List.getElem?_toArray, List.getElem?_cons_zero, List.getElem?_cons_succ]; rfl) (by kernel_rfl) (by kernel_rfl) (by kernel_rfl) (by exact fun _ _ _ h => h) (y_move (by kernel_rfl) _ rfl _ rfl) hS ?_
  try simp only [Act.put, List.setIfInBounds_toArray, List.set_cons_zero, List.set_cons_succ]
  refine wpAnyH_take (i := 13) (v := (.slice av12 12 cv12)) (by simp only [List.getElem?_toArray, List.getElem?_cons_zero, List.getElem?_cons_succ]; rfl) (by kernel_rfl) (by kernel_rfl) (by kernel_rfl) (by exact fun _ _ _ h => h) (y_move (by kernel_rfl) _ rfl _ rfl) hS ?_
  try simp only [Act.put, List.setIfInBounds_toArray, List.set_cons_zero, List.set_cons_succ]
  refine wpAnyH_take (i := 14) (v := (.string { data := #[139, 97, 110, 111, 116, 104, 101, 114, 32, 111, 110, 101] })) (by simp only [List.getElem?_toArray, List.getElem?_cons_zero, List.getElem?_cons_succ]; rfl) (by kernel_rfl) (by kernel_rfl) (by kernel_rfl) (by exact fun _ _ _ h => h) (y_conv (by kernel_rfl) _ rfl (.slice av12 12 cv12) (.string { data := #[139, 97, 110, 111, 116, 104, 101, 114, 32, 111, 110, 101] }) rfl (fun w' hs => (HS.out w' hs).1.2.2.2)) hS ?_
  try simp only [Act.put, List.setIfInBounds_toArray, List.set_cons_zero, List.set_cons_succ]
  refine wpAnyH_take (i := 15) (v := (.bool true)) (by simp only [List.getElem?_toArray, List.getElem?_cons_zero, List.getElem?_cons_succ]; rfl) (by kernel_rfl) (by kernel_rfl) (by kernel_rfl) (by exact fun _ _ _ h => h) (y_eqlS (by kernel_rfl) _ _ rfl _ rfl rfl) hS ?_
  try simp only [Act.put, List.setIfInBounds_toArray, List.set_cons_zero, List.set_cons_succ]
  refine wpAnyH_take (i := 16) (v := (.bool true)) (by simp only [List.getElem?_toArray, List.getElem?_cons_zero, List.getElem?_cons_succ]; rfl) (by kernel_rfl) (by kernel_rfl) (by kernel_rfl) (by exact fun _ _ _ h => h) (y_pick_t (by kernel_rfl) _ _ _ rfl _ rfl rfl) hS ?_
  try simp only [Act.put, List.setIfInBounds_toArray, List.set_cons_zero, List.set_cons_succ]
  refine wpAnyH_take (i := 17) (v := (.bool true)) (by simp only [List.getElem?_toArray, List.getElem?_cons_zero, List.getElem?_cons_succ]; rfl) (by kernel_rfl) (by kernel_rfl) (by kernel_rfl) (by exact fun _ _ _ h => h) (y_move (by kernel_rfl) _ rfl _ rfl) hS ?_
  try simp only [Act.put, List.setIfInBounds_toArray, List.set_cons_zero, List.set_cons_succ]
  refine wpAnyH_take (i := 18) (v := (.int .i64 ((EX : Nat) : Int))) (by simp only [List.getElem?_toArray, List.getElem?_cons_zero, List.getElem?_cons_succ]; rfl) (by kernel_rfl) (by kernel_rfl) (by kernel_rfl) (by exact fun _ _ _ h => h) (y_move (by kernel_rfl) _ rfl _ rfl) hS ?_
  try simp only [Act.put, List.setIfInBounds_toArray, List.set_cons_zero, List.set_cons_succ]
  refine wpAnyH_take (i := 19) (v := (.int .i64 ((EX : Nat) : Int))) (by simp only [List.getElem?_toArray, List.getElem?_cons_zero, List.getElem?_cons_succ]; rfl) (by kernel_rfl) (by kernel_rfl) (by kernel_rfl) (by exact fun _ _ _ h => h) (y_move (by kernel_rfl) _ rfl _ rfl) hS ?_
  try simp only [Act.put, List.setIfInBounds_toArray, List.set_cons_zero, List.set_cons_succ]
  refine wpAnyH_take (i := 20) (v := (.bool true)) (by simp only [List.getElem?_toArray, List.getElem?_cons_zero, List.getElem?_cons_succ]; rfl) (by kernel_rfl) (by kernel_rfl) (by kernel_rfl) (by exact fun _ _ _ h => h) (y_eqlI (by kernel_rfl) _ _ rfl _ rfl rfl) hS ?_
  try simp only [Act.put, List.setIfInBounds_toArray, List.set_cons_zero, List.set_cons_succ]
  refine wpAnyH_take (i := 21) (v := (.bool true)) (by simp only [List.getElem?_toArray, List.getElem?_cons_zero, List.getElem?_cons_succ]; rfl) (by kernel_rfl) (by kernel_rfl) (by kernel_rfl) (by exact fun _ _ _ h => h) (y_pick_t (by kernel_rfl) _ _ _ rfl _ rfl rfl) hS ?_
  try simp only [Act.put, List.setIfInBounds_toArray, List.set_cons_zero, List.set_cons_succ]
  refine wpAnyH_take (i := 22) (v := (.bool true)) (by simp only [List.getElem?_toArray, List.getElem?_cons_zero, List.getElem?_cons_succ]; rfl) (by kernel_rfl) (by kernel_rfl) (by kernel_rfl) (by exact fun _ _ _ h => h) (y_move (by kernel_rfl) _ rfl _ rfl) hS ?_
  try simp only [Act.put, List.setIfInBounds_toArray, List.set_cons_zero, List.set_cons_succ]
  refine wpAnyH_take (i := 23) (v := (.int .i64 ((IV : Nat) : Int))) (by simp only [List.getElem?_toArray, List.getElem?_cons_zero, List.getElem?_cons_succ]; rfl) (by kernel_rfl) (by kernel_rfl) (by kernel_rfl) (by exact fun _ _ _ h => h) (y_move (by kernel_rfl) _ rfl _ rfl) hS ?_
  try simp only [Act.put, List.setIfInBounds_toArray, List.set_cons_zero, List.set_cons_succ]
  refine wpAnyH_take (i := 24) (v := (.int .i64 ((IV : Nat) : Int))) (by simp only [List.getElem?_toArray, List.getElem?_cons_zero, List.getElem?_cons_succ]; rfl) (by kernel_rfl) (by kernel_rfl) (by kernel_rfl) (by exact fun _ _ _ h => h) (y_move (by kernel_rfl) _ rfl _ rfl) hS ?_
  try simp only [Act.put, List.setIfInBounds_toArray, List.set_cons_zero, List.set_cons_succ]
  refine wpAnyH_take (i := 25) (v := (.bool true)) (by simp only [List.getElem?_toArray, List.getElem?_cons_zero, List.getElem?_cons_succ]; rfl) (by kernel_rfl) (by kernel_rfl) (by kernel_rfl) (by exact fun _ _ _ h => h) (y_eqlJ (by kernel_rfl) _ _ rfl _ rfl rfl) hS ?_
  try simp only [Act.put, List.setIfInBounds_toArray, List.set_cons_zero, List.set_cons_succ]
  refine wpAnyH_take (i := 26) (v := (.bool true)) (by simp only [List.getElem?_toArray, List.getElem?_cons_zero, List.getElem?_cons_succ]; rfl) (by kernel_rfl) (by kernel_rfl) (by kernel_rfl) (by exact fun _ _ _ h => h) (y_pick_t (by kernel_rfl) _ _ _ rfl _ rfl rfl) hS ?_
  try simp only [Act.put, List.setIfInBounds_toArray, List.set_cons_zero, List.set_cons_succ]
  refine wpAnyH_take (i := 27) (v := (.bool true)) (by simp only [List.getElem?_toArray, List.getElem?_cons_zero, List.getElem?_cons_succ]; rfl) (by kernel_rfl) (by kernel_rfl) (by kernel_rfl) (by exact fun _ _ _ h => h) (y_move (by kernel_rfl) _ rfl _ rfl) hS ?_
  try simp only [Act.put, List.setIfInBounds_toArray, List.set_cons_zero, List.set_cons_succ]
  refine wpAnyH_take (i := 28) (v := (.int .i64 ((IE : Nat) : Int))) (by simp only [List.getElem?_toArray, List.getElem?_cons_zero, List.getElem?_cons_succ]; rfl) (by kernel_rfl) (by kernel_rfl) (by kernel_rfl) (by exact fun _ _ _ h => h) (y_move (by kernel_rfl) _ rfl _ rfl) hS ?_
  try simp only [Act.put, List.setIfInBounds_toArray, List.set_cons_zero, List.set_cons_succ]
  refine wpAnyH_take (i := 29) (v := (.int .i64 ((IE : Nat) : Int))) (by simp only [List.getElem?_toArray, List.getElem?_cons_zero, List.getElem?_cons_succ]; rfl) (by kernel_rfl) (by kernel_rfl) (by kernel_rfl) (by exact fun _ _ _ h => h) (y_move (by kernel_rfl) _ rfl _ rfl) hS ?_
  try simp only [Act.put, List.setIfInBounds_toArray, List.set_cons_zero, List.set_cons_succ]
  refine wpAnyH_take (i := 30) (v := (.bool true)) (by simp only [List.getElem?_toArray, List.getElem?_cons_zero, List.getElem?_cons_succ]; rfl) (by kernel_rfl) (by kernel_rfl) (by kernel_rfl) (by exact fun _ _ _ h => h) (y_eqlI (by kernel_rfl) _ _ rfl _ rfl rfl) hS ?_
  try simp only [Act.put, List.setIfInBounds_toArray, List.set_cons_zero, List.set_cons_succ]
  refine wpAnyH_take (i := 31) (v := (.bool true)) (by simp only [List.getElem?_toArray, List.getElem?_cons_zero, List.getElem?_cons_succ]; rfl) (by kernel_rfl) (by kernel_rfl) (by kernel_rfl) (by exact fun _ _ _ h => h) (y_pick_t (by kernel_rfl) _ _ _ rfl _ rfl rfl) hS ?_
  try simp only [Act.put, List.setIfInBounds_toArray, List.set_cons_zero, List.set_cons_succ]
  refine wpAnyH_take (i := 32) (v := (.bool true)) (by simp only [List.getElem?_toArray, List.getElem?_cons_zero, List.getElem?_cons_succ]; rfl) (by kernel_rfl) (by kernel_rfl) (by kernel_rfl) (by exact fun _ _ _ h => h) (y_move (by kernel_rfl) _ rfl _ rfl) hS ?_
  try simp only [Act.put, List.setIfInBounds_toArray, List.set_cons_zero, List.set_cons_succ]
  refine wpAnyH_take (i := 33) (v := (.agg #[.bool false, .slice av8 nU cv8, .slice none 0 0])) (by simp only [List.getElem?_toArray, List.getElem?_cons_zero, List.getElem?_cons_succ]; rfl) (by kernel_rfl) (by kernel_rfl) (by kernel_rfl) (by exact fun _ _ _ h => h) (y_load25 (by kernel_rfl) _ rfl _ rfl _ _ _ (fun w' hs => (HS.out w' hs).2.1)) hS ?_
  try simp only [Act.put, List.setIfInBounds_toArray, List.set_cons_zero, List.set_cons_succ]
  refine wpAnyH_take (i := 35) (v := (.agg #[.bool false, .slice av3 nU cv3, .slice none 0 0])) (by simp only [List.getElem?_toArray, List.getElem?_cons_zero, List.getElem?_cons_succ]; rfl) (by kernel_rfl) (by kernel_rfl) (by kernel_rfl) (by exact fun _ _ _ h => h) (y_load34 (by kernel_rfl) _ rfl _ rfl _ _ _ (fun w' hs => (HS.out w' hs).2.2.2.1)) hS ?_
  try simp only [Act.put, List.setIfInBounds_toArray, List.set_cons_zero, List.set_cons_succ]
  refine wpAnyH_ready (rs := [34]) (by kernel_rfl) (by simp) ?_
  refine AllReadyH.cons (by simp only [List.getElem?_toArray, List.getElem?_cons_zero, List.getElem?_cons_succ]; rfl) (fun K hK => ?_) AllReadyH.nil
  refine r_call1 11 _ _ rfl (by kernel_rfl) _ rfl eBack ?_
  refine (back_any (.mk false u []) wd _ _ ((HLU.out _ hS).2.1)).mono ?_
  rintro e w14 ⟨vb14, vi14, rfl, o14, bb14⟩
  have B14 : Below wE.heap.size wE w14 := ch hS bb14
  refine ⟨_, rfl, ?_⟩
  refine hK.out _ _ B14 (fun hS => ?_)
  clear hK K
  try simp only [Act.put, List.setIfInBounds_toArray, List.set_cons_zero, List.set_cons_succ]
  refine wpAnyH_ready (rs := [36]) (by kernel_rfl) (by simp) ?_
  refine AllReadyH.cons (by simp only [List.getElem?_toArray, List.getElem?_cons_zero, List.getElem?_cons_succ]; rfl) (fun K hK => ?_) AllReadyH.nil
  refine r_call2 10 _ _ _ rfl (by kernel_rfl) _ _ rfl rfl eSame ?_
  refine (same_any (.mk false u []) w14 _ _ _ _ o14.lies ((HLU.out _ B14).1)).mono ?_
  rintro e w15 ⟨rfl, bx14⟩
  have B15 : Below wE.heap.size wE w15 := ch B14 bx14
  refine ⟨_, rfl, ?_⟩
  refine hK.out _ _ B15 (fun hS => ?_)
  clear o14 bb14 bx14
  clear hK K
  try simp only [Act.put, List.setIfInBounds_toArray, List.set_cons_zero, List.set_cons_succ]
  refine wpAnyH_take (i := 37) (v := (.bool true)) (by simp only [List.getElem?_toArray, List.getElem?_cons_zero, List.getElem?_cons_succ]; rfl) (by kernel_rfl) (by kernel_rfl) (by kernel_rfl) (by exact fun _ _ _ h => h) (y_pick_t (by kernel_rfl) _ _ _ rfl _ rfl rfl) hS ?_
  try simp only [Act.put, List.setIfInBounds_toArray, List.set_cons_zero, List.set_cons_succ]
  refine wpAnyH_take (i := 38) (v := (.bool true)) (by simp only [List.getElem?_toArray, List.getElem?_cons_zero, List.getElem?_cons_succ]; rfl) (by kernel_rfl) (by kernel_rfl) (by kernel_rfl) (by exact fun _ _ _ h => h) (y_move (by kernel_rfl) _ rfl _ rfl) hS ?_
  try simp only [Act.put, List.setIfInBounds_toArray, List.set_cons_zero, List.set_cons_succ]
  refine wpAnyH_take (i := 39) (v := (.agg #[.bool false, .slice av13 nU cv13, .slice none 0 0])) (by simp only [List.getElem?_toArray, List.getElem?_cons_zero, List.getElem?_cons_succ]; rfl) (by kernel_rfl) (by kernel_rfl) (by kernel_rfl) (by exact fun _ _ _ h => h) (y_load25 (by kernel_rfl) _ rfl _ rfl _ _ _ (fun w' hs => (HS.out w' hs).2.2.1)) hS ?_
  try simp only [Act.put, List.setIfInBounds_toArray, List.set_cons_zero, List.set_cons_succ]
  refine wpAnyH_take (i := 41) (v := (.agg #[.bool false, .slice av3 nU cv3, .slice none 0 0])) (by simp only [List.getElem?_toArray, List.getElem?_cons_zero, List.getElem?_cons_succ]; rfl) (by kernel_rfl) (by kernel_rfl) (by kernel_rfl) (by exact fun _ _ _ h => h) (y_load34 (by kernel_rfl) _ rfl _ rfl _ _ _ (fun w' hs => (HS.out w' hs).2.2.2.1)) hS ?_
  try simp only [Act.put, List.setIfInBounds_toArray, List.set_cons_zero, List.set_cons_succ]
  refine wpAnyH_ready (rs := [40]) (by kernel_rfl) (by simp) ?_
  refine AllReadyH.cons (by simp only [List.getElem?_toArray, List.getElem?_cons_zero, List.getElem?_cons_succ]; rfl) (fun K hK => ?_) AllReadyH.nil
  refine r_call1 11 _ _ rfl (by kernel_rfl) _ rfl eBack ?_
  refine (back_any (.mk false u []) w15 _ _ ((HLU.out _ B15).2.2)).mono ?_
  rintro e w16 ⟨vb16, vi16, rfl, o16, bb16⟩
  have B16 : Below wE.heap.size wE w16 := ch B15 bb16
  refine ⟨_, rfl, ?_⟩
  refine hK.out _ _ B16 (fun hS => ?_)
  clear hK K
  try simp only [Act.put, List.setIfInBounds_toArray, List.set_cons_zero, List.set_cons_succ]
  refine wpAnyH_ready (rs := [42]) (by kernel_rfl) (by simp) ?_
  refine AllReadyH.cons (by simp only [List.getElem?_toArray, List.getElem?_cons_zero, List.getElem?_cons_succ]; rfl) (fun K hK => ?_) AllReadyH.nil
  refine r_call2 10 _ _ _ rfl (by kernel_rfl) _ _ rfl rfl eSame ?_
  refine (same_any (.mk false u []) w16 _ _ _ _ o16.lies ((HLU.out _ B16).1)).mono ?_
  rintro e w17 ⟨rfl, bx16⟩
  have B17 : Below wE.heap.size wE w17 := ch B16 bx16
  refine ⟨_, rfl, ?_⟩
  refine hK.out _ _ B17 (fun hS => ?_)
  clear o16 bb16 bx16
  clear hK K
  try simp only [Act.put, List.setIfInBounds_toArray, List.set_cons_zero, List.set_cons_succ]
  refine wpAnyH_take (i := 43) (v := (.bool true)) (by simp only [List.getElem?_toArray, List.getElem?_cons_zero, List.getElem?_cons_succ]; rfl) (by kernel_rfl) (by kernel_rfl) (by kernel_rfl) (by exact fun _ _ _ h => h) (y_pick_t (by kernel_rfl) _ _ _ rfl _ rfl rfl) hS ?_
  try simp only [Act.put, List.setIfInBounds_toArray, List.set_cons_zero, List.set_cons_succ]
  refine wpAnyH_take (i := 44) (v := (.bool true)) (by simp only [List.getElem?_toArray, List.getElem?_cons_zero, List.getElem?_cons_succ]; rfl) (by kernel_rfl) (by kernel_rfl) (by kernel_rfl) (by exact fun _ _ _ h => h) (y_move (by kernel_rfl) _ rfl _ rfl) hS ?_
  try simp only [Act.put, List.setIfInBounds_toArray, List.set_cons_zero, List.set_cons_succ]
  refine wpAnyH_take (i := 45) (v := (.int .i64 ((EN : Nat) : Int))) (by simp only [List.getElem?_toArray, List.getElem?_cons_zero, List.getElem?_cons_succ]; rfl) (by kernel_rfl) (by kernel_rfl) (by kernel_rfl) (by exact fun _ _ _ h => h) (y_move (by kernel_rfl) _ rfl _ rfl) hS ?_
  try simp only [Act.put, List.setIfInBounds_toArray, List.set_cons_zero, List.set_cons_succ]
  refine wpAnyH_take (i := 46) (v := (.int .i64 ((EN : Nat) : Int))) (by simp only [List.getElem?_toArray, List.getElem?_cons_zero, List.getElem?_cons_succ]; rfl) (by kernel_rfl) (by kernel_rfl) (by kernel_rfl) (by exact fun _ _ _ h => h) (y_move (by kernel_rfl) _ rfl _ rfl) hS ?_
  try simp only [Act.put, List.setIfInBounds_toArray, List.set_cons_zero, List.set_cons_succ]
  refine wpAnyH_take (i := 47) (v := (.bool true)) (by simp only [List.getElem?_toArray, List.getElem?_cons_zero, List.getElem?_cons_succ]; rfl) (by kernel_rfl) (by kernel_rfl) (by kernel_rfl) (by exact fun _ _ _ h => h) (y_eqlI (by kernel_rfl) _ _ rfl _ rfl rfl) hS ?_
  try simp only [Act.put, List.setIfInBounds_toArray, List.set_cons_zero, List.set_cons_succ]
  refine wpAnyH_take (i := 48) (v := (.bool true)) (by simp only [List.getElem?_toArray, List.getElem?_cons_zero, List.getElem?_cons_succ]; rfl) (by kernel_rfl) (by kernel_rfl) (by kernel_rfl) (by exact fun _ _ _ h => h) (y_pick_t (by kernel_rfl) _ _ _ rfl _ rfl rfl) hS ?_
  try simp only [Act.put, List.setIfInBounds_toArray, List.set_cons_zero, List.set_cons_succ]
  refine wpAnyH_take (i := 49) (v := (.bool true)) (by simp only [List.getElem?_toArray, List.getElem?_cons_zero, List.getElem?_cons_succ]; rfl) (by kernel_rfl) (by kernel_rfl) (by kernel_rfl) (by exact fun _ _ _ h => h) (y_assign (by kernel_rfl) _ rfl _ rfl) hS ?_
  try simp only [Act.put, List.setIfInBounds_toArray, List.set_cons_zero, List.set_cons_succ]
  refine wpAnyH_done (by kernel_rfl) ?_ _
  have HB17 : Hid (Below wE.heap.size wE w17) := B17
  clear hS B14 B15 B16 B17
  go_wp2_with fail
  refine wp_region_held_drew (S := fun w' => Below wE.heap.size wE w') (by kernel_rfl) ((Below.drew HB17.out)) ?_
  intro hS
  change wpAnyH _ _ _ _ _ 14 _ _ _
  generalize w17.drew = wd at hS ⊢
  refine wpAnyH_take (i := 0) (v := (.bool true)) (by simp only [List.getElem?_toArray, List.getElem?_cons_zero]; rfl) (by kernel_rfl) (by kernel_rfl) (by kernel_rfl) (by exact fun _ _ _ h => h) (y_move (by kernel_rfl) _ rfl _ rfl) hS ?_
  try simp only [Act.put, List.setIfInBounds_toArray, List.set_cons_zero, List.set_cons_succ]
  refine wpAnyH_take (i := 1) (v := (.bool false)) (by simp only [List.getElem?_toArray, List.getElem?_cons_zero, List.getElem?_cons_succ]; rfl) (by kernel_rfl) (by kernel_rfl) (by kernel_rfl) (by exact fun _ _ _ h => h) (y_notT (by kernel_rfl) _ rfl rfl) hS ?_
  try simp only [Act.put, List.setIfInBounds_toArray, List.set_cons_zero, List.set_cons_succ]
  refine wpAnyH_take (i := 2) (v := (.bool false)) (by simp only [List.getElem?_toArray, List.getElem?_cons_zero, List.getElem?_cons_succ]; rfl) (by kernel_rfl) (by kernel_rfl) (by kernel_rfl) (by exact fun _ _ _ h => h) (y_move (by kernel_rfl) _ rfl _ rfl) hS ?_
  try simp only [Act.put, List.setIfInBounds_toArray, List.set_cons_zero, List.set_cons_succ]
  refine wpAnyH_take (i := 3) (v := (.agg #[.bool l, .slice c1 c2 c3, .slice c4 c5 c6])) (by simp only [List.getElem?_toArray, List.getElem?_cons_zero, List.getElem?_cons_succ]; rfl) (by kernel_rfl) (by kernel_rfl) (by kernel_rfl) (by exact fun _ _ _ h => h) (y_load25 (by kernel_rfl) _ rfl _ rfl _ _ _ (fun w' hs => (HS.out w' hs).2.2.2.2.1)) hS ?_
  try simp only [Act.put, List.setIfInBounds_toArray, List.set_cons_zero, List.set_cons_succ]
  refine wpAnyH_take (i := 5) (v := (.agg #[.bool l, .slice a1 n1 k1, .slice a2 n2 k2])) (by simp only [List.getElem?_toArray, List.getElem?_cons_zero, List.getElem?_cons_succ]; rfl) (by kernel_rfl) (by kernel_rfl) (by kernel_rfl) (by exact fun _ _ _ h => h) (y_load34 (by kernel_rfl) _ rfl _ rfl _ _ _ (fun w' hs => (HS.out w' hs).2.2.2.2.2)) hS ?_
  try simp only [Act.put, List.setIfInBounds_toArray, List.set_cons_zero, List.set_cons_succ]
  refine wpAnyH_ready (rs := [4]) (by kernel_rfl) (by simp) ?_
  refine AllReadyH.cons (by simp only [List.getElem?_toArray, List.getElem?_cons_zero, List.getElem?_cons_succ]; rfl) (fun K hK => ?_) AllReadyH.nil
  refine r_call1 11 _ _ rfl (by kernel_rfl) _ rfl eBack ?_
  refine (back_any' x wd _ _ l HEL.out ((HLI.out _ hS).1.lies)).mono ?_
  rintro e w18 ⟨vb18, vi18, rfl, o18, bb18⟩
  have B18 : Below wE.heap.size wE w18 := ch hS bb18
  refine ⟨_, rfl, ?_⟩
  refine hK.out _ _ B18 (fun hS => ?_)
  clear hK K
  try simp only [Act.put, List.setIfInBounds_toArray, List.set_cons_zero, List.set_cons_succ]
  refine wpAnyH_ready (rs := [6]) (by kernel_rfl) (by simp) ?_
  refine AllReadyH.cons (by simp only [List.getElem?_toArray, List.getElem?_cons_zero, List.getElem?_cons_succ]; rfl) (fun K hK => ?_) AllReadyH.nil
  refine r_call2 10 _ _ _ rfl (by kernel_rfl) _ _ rfl rfl eSame ?_
  refine (same_any' x w18 _ _ _ _ l HEL.out o18.lies ((HLI.out _ B18).2)).mono ?_
  rintro e w19 ⟨rfl, bx18⟩
  have B19 : Below wE.heap.size wE w19 := ch B18 bx18
  refine ⟨_, rfl, ?_⟩
  refine hK.out _ _ B19 (fun hS => ?_)
  clear o18 bb18 bx18
  clear hK K
  try simp only [Act.put, List.setIfInBounds_toArray, List.set_cons_zero, List.set_cons_succ]
  refine wpAnyH_take (i := 7) (v := (.bool false)) (by simp only [List.getElem?_toArray, List.getElem?_cons_zero, List.getElem?_cons_succ]; rfl) (by kernel_rfl) (by kernel_rfl) (by kernel_rfl) (by exact fun _ _ _ h => h) (y_notT (by kernel_rfl) _ rfl rfl) hS ?_
  try simp only [Act.put, List.setIfInBounds_toArray, List.set_cons_zero, List.set_cons_succ]
  refine wpAnyH_take (i := 8) (v := (.bool false)) (by simp only [List.getElem?_toArray, List.getElem?_cons_zero, List.getElem?_cons_succ]; rfl) (by kernel_rfl) (by kernel_rfl) (by kernel_rfl) (by exact fun _ _ _ h => h) (y_pick_f (by kernel_rfl) _ _ _ rfl _ rfl rfl) hS ?_
  try simp only [Act.put, List.setIfInBounds_toArray, List.set_cons_zero, List.set_cons_succ]
  refine wpAnyH_take (i := 9) (v := (.bool false)) (by simp only [List.getElem?_toArray, List.getElem?_cons_zero, List.getElem?_cons_succ]; rfl) (by kernel_rfl) (by kernel_rfl) (by kernel_rfl) (by exact fun _ _ _ h => h) (y_move (by kernel_rfl) _ rfl _ rfl) hS ?_
  try simp only [Act.put, List.setIfInBounds_toArray, List.set_cons_zero, List.set_cons_succ]
  refine wpAnyH_take (i := 10) (v := (.agg #[.bool l, .slice c1 c2 c3, .slice c4 c5 c6])) (by simp only [List.getElem?_toArray, List.getElem?_cons_zero, List.getElem?_cons_succ]; rfl) (by kernel_rfl) (by kernel_rfl) (by kernel_rfl) (by exact fun _ _ _ h => h) (y_load25 (by kernel_rfl) _ rfl _ rfl _ _ _ (fun w' hs => (HS.out w' hs).2.2.2.2.1)) hS ?_
  try simp only [Act.put, List.setIfInBounds_toArray, List.set_cons_zero, List.set_cons_succ]
  refine wpAnyH_ready (rs := [11]) (by kernel_rfl) (by simp) ?_
  refine AllReadyH.cons (by simp only [List.getElem?_toArray, List.getElem?_cons_zero, List.getElem?_cons_succ]; rfl) (fun K hK => ?_) AllReadyH.nil
  refine r_call1 24 _ _ rfl (by kernel_rfl) _ rfl eMark ?_
  refine (marked_any' x w19 _ _ l HEL.out ((HLI.out _ B19).1.marks)).mono ?_
  rintro e w20 ⟨rfl, bm⟩
  have B20 : Below wE.heap.size wE w20 := ch B19 bm
  refine ⟨_, rfl, ?_⟩
  refine hK.out _ _ B20 (fun hS => ?_)
  clear bm
  clear hK K
  try simp only [Act.put, List.setIfInBounds_toArray, List.set_cons_zero, List.set_cons_succ]
  refine wpAnyH_take (i := 12) (v := (.bool false)) (by simp only [List.getElem?_toArray, List.getElem?_cons_zero, List.getElem?_cons_succ]; rfl) (by kernel_rfl) (by kernel_rfl) (by kernel_rfl) (by exact fun _ _ _ h => h) (y_notT (by kernel_rfl) _ rfl rfl) hS ?_
  try simp only [Act.put, List.setIfInBounds_toArray, List.set_cons_zero, List.set_cons_succ]
  refine wpAnyH_take (i := 13) (v := (.bool false)) (by simp only [List.getElem?_toArray, List.getElem?_cons_zero, List.getElem?_cons_succ]; rfl) (by kernel_rfl) (by kernel_rfl) (by kernel_rfl) (by exact fun _ _ _ h => h) (y_pick_f (by kernel_rfl) _ _ _ rfl _ rfl rfl) hS ?_
  try simp only [Act.put, List.setIfInBounds_toArray, List.set_cons_zero, List.set_cons_succ]
  refine wpAnyH_done (by kernel_rfl) ?_ _
  have HB20 : Hid (Below wE.heap.size wE w20) := B20
  clear hS B18 B19 B20
  go_wp2_with fail
  have HIN : Hid (In wE wB.heap.size w6.heap.size (.slice av6 nS cv6) ∧ In wE w9.heap.size w10.heap.size (.slice av10 nS cv10) ∧ In wE wD.heap.size w12.heap.size (.slice av12 12 cv12) ∧ In wE w7.heap.size wC.heap.size (.slice av8 nU cv8) ∧ In wE w12.heap.size wE.heap.size (.slice av13 nU cv13)) := by
    have ls : s.length ≤ 140737488351232 := by have := HNS.out.1; omega
    have lu : u.length ≤ 140737488351232 := by have := HNS.out.2; omega
    exact ⟨⟨⟨s, HT.out.1.2.2.1.mono (fun _ _ => trivial), ls⟩, HT.out.1.2.2.1.foot, fun g hg => (H6.out.2.own.lt g hg).2⟩, ⟨⟨s, HT.out.2.1.mono (fun _ _ => trivial), ls⟩, HT.out.2.1.foot, fun g hg => (H10.out.2.own.lt g hg).2⟩, ⟨⟨anB, HT.out.2.2.1.mono (fun _ _ => trivial), by decide⟩, HT.out.2.2.1.foot, fun g hg => (H12.out.2.own.lt g hg).2⟩, ⟨⟨u, HT.out.1.2.2.2.mono (fun _ _ => trivial), lu⟩, HT.out.1.2.2.2.foot, fun g hg => (HC.out.2.2.1.own.lt g hg).2⟩, ⟨u, HT.out.2.2.2.mono (fun _ _ => trivial), lu⟩, HT.out.2.2.2.foot, fun g hg => (HT.out.2.2.2.own.lt g hg).2⟩
  have HSZ : Hid (wB.heap.size ≤ w6.heap.size ∧ w6.heap.size ≤ w7.heap.size ∧ w7.heap.size ≤ wC.heap.size ∧ wC.heap.size ≤ w9.heap.size ∧ w9.heap.size ≤ w10.heap.size ∧ w10.heap.size ≤ wD.heap.size ∧ wD.heap.size ≤ w12.heap.size ∧ w12.heap.size ≤ wE.heap.size) := by
    have := HC.out.2.2.2.lt
    refine ⟨H6.out.1.size, H7.out.size, ?_, H9.out.1.size, H10.out.1.size, HD.out.2.size, H12.out.1.size, HE.out.2.1.size⟩
    exact H78.out
  have HAP : Hid (∀ wd, Below wE.heap.size wE wd → Calls Try.prog 18 #[.slice (some ⟨wd.heap.size, 0, none⟩) 5 5] (wd.alloc (.cells #[.slice av6 nS cv6, .slice av10 nS cv10, .slice av12 12 cv12, .slice av8 nU cv8, .slice av13 nU cv13] 22)) fun e w' => e = .returned (.bool true) ∧ Turn (Blk [.slice av6 nS cv6, .slice av10 nS cv10, .slice av12 12 cv12, .slice av8 nU cv8, .slice av13 nU cv13]) (wd.alloc (.cells #[.slice av6 nS cv6, .slice av10 nS cv10, .slice av12 12 cv12, .slice av8 nU cv8, .slice av13 nU cv13] 22)) w') := fun wd k => by
    have k2 := ch k (below_alloc wd (.cells #[.slice av6 nS cv6, .slice av10 nS cv10, .slice av12 12 cv12, .slice av8 nU cv8, .slice av13 nU cv13] 22))
    obtain ⟨i1, i2, i3, i4, i5⟩ := HIN.out
    obtain ⟨z1, z2, z3, z4, z5, z6, z7, z8⟩ := HSZ.out
    refine apart_any5 _ wd.heap.size _ 5 [.slice av6 nS cv6, .slice av10 nS cv10, .slice av12 12 cv12, .slice av8 nU cv8, .slice av13 nU cv13] (World.ownsRow_lit (base := wd.heap.size) (e := 22) (size := 1) wd #[.slice av6 nS cv6, .slice av10 nS cv10, .slice av12 12 cv12, .slice av8 nU cv8, .slice av13 nU cv13] 5 (Nat.le_refl _) (by decide) rfl) (fun v hv => ?_) ?_ (by simp)
    · simp only [List.mem_cons, List.not_mem_nil, or_false] at hv
      rcases hv with rfl | rfl | rfl | rfl | rfl
      · exact (i1.below k2).str
      · exact (i2.below k2).str
      · exact (i3.below k2).str
      · exact (i4.below k2).str
      · exact (i5.below k2).str
    · simp only [List.pairwise_cons, List.mem_cons, List.not_mem_nil, or_false, forall_eq_or_imp, forall_eq, List.Pairwise.nil, and_true, false_implies, implies_true]
      exact ⟨⟨i1.sep i2 (by omega), i1.sep i3 (by omega), i1.sep i4 (by omega), i1.sep i5 (by omega)⟩, ⟨i2.sep i3 (by omega), i2.sep i4 (by omega), i2.sep i5 (by omega)⟩, ⟨i3.sep i4 (by omega), i3.sep i5 (by omega)⟩, i4.sep i5 (by omega)⟩
  -- what Apart leaves as it was
  have HLO : Hid (∀ i, Blk [.slice av6 nS cv6, .slice av10 nS cv10, .slice av12 12 cv12, .slice av8 nU cv8, .slice av13 nU cv13] i → wB.heap.size ≤ i) := fun i h => by
    obtain ⟨i1, i2, i3, i4, i5⟩ := HIN.out
    obtain ⟨z1, z2, z3, z4, z5, z6, z7, z8⟩ := HSZ.out
    obtain ⟨v, hv, hg⟩ := h
    simp only [List.mem_cons, List.not_mem_nil, or_false] at hv
    rcases hv with rfl | rfl | rfl | rfl | rfl
    · exact i1.lo i hg
    · have := i2.lo i hg; omega
    · have := i3.lo i hg; omega
    · have := i4.lo i hg; omega
    · have := i5.lo i hg; omega
  have HNX : Hid (∀ wd, Below wE.heap.size wE wd → ∀ i, Blk [.slice av6 nS cv6, .slice av10 nS cv10, .slice av12 12 cv12, .slice av8 nU cv8, .slice av13 nU cv13] i → i < wE.heap.size ∧ ∃ cur, wd.heap[i]? = some (.cells cur 5 (0, 0))) := fun wd k i h => by
    obtain ⟨i1, i2, i3, i4, i5⟩ := HIN.out
    obtain ⟨v, hv, hg⟩ := h
    have key : ∀ v, (∃ s, Str wE Any v s ∧ s.length ≤ 140737488351232) → v.ownBlock = some i → i < wE.heap.size ∧ ∃ cur, wd.heap[i]? = some (.cells cur 5 (0, 0)) := fun v ⟨t, ht, _⟩ hg => ⟨(ht.own.lt i hg).2, own_block (ht.below k).own hg⟩
    simp only [List.mem_cons, List.not_mem_nil, or_false] at hv
    rcases hv with rfl | rfl | rfl | rfl | rfl
    · exact key _ i1.str hg
    · exact key _ i2.str hg
    · exact key _ i3.str hg
    · exact key _ i4.str hg
    · exact key _ i5.str hg
  have HS2 : Hid (∀ w', (Below wB.heap.size wB w' ∧ Bx w' w8.heap.size 25 (.bool false) (.slice av8 nU cv8) (.slice none 0 0) ∧ Bx w' w13.heap.size 25 (.bool false) (.slice av13 nU cv13) (.slice none 0 0)) →
      (w'.cell? ⟨w8.heap.size, 0, none⟩ = some (.bool false) ∧ w'.cell? ⟨w8.heap.size, 1, none⟩ = some (.slice av8 nU cv8) ∧ w'.cell? ⟨w8.heap.size, 2, none⟩ = some (.slice none 0 0))
      ∧ (w'.cell? ⟨w13.heap.size, 0, none⟩ = some (.bool false) ∧ w'.cell? ⟨w13.heap.size, 1, none⟩ = some (.slice av13 nU cv13) ∧ w'.cell? ⟨w13.heap.size, 2, none⟩ = some (.slice none 0 0))
      ∧ (w'.cell? ⟨w5.heap.size, 0, none⟩ = some (.bool l) ∧ w'.cell? ⟨w5.heap.size, 1, none⟩ = some (.slice c1 c2 c3) ∧ w'.cell? ⟨w5.heap.size, 2, none⟩ = some (.slice c4 c5 c6))
      ∧ (w'.cell? ⟨w.heap.size, 0, none⟩ = some (.bool l) ∧ w'.cell? ⟨w.heap.size, 1, none⟩ = some (.slice a1 n1 k1) ∧ w'.cell? ⟨w.heap.size, 2, none⟩ = some (.slice a2 n2 k2))) := fun w' ⟨k, h8, h13⟩ => by
    have q8 := h8.cells
    have q13 := h13.cells
    have q5 := (HB.out.2.2.2.2.1.keep (k.block _ HB.out.2.2.2.2.1.lt)).cells
    exact ⟨⟨q8.1, q8.2.1, q8.2.2.1⟩, ⟨q13.1, q13.2.1, q13.2.2.1⟩, ⟨q5.1, q5.2.1, q5.2.2.1⟩, HBX.out w' (ch HA.out.2.2.1 (ch HB.out.2.2.1 k))⟩
  have HST : Hid (∀ (v v' : World), (Below wB.heap.size wB v ∧ Bx v w8.heap.size 25 (.bool false) (.slice av8 nU cv8) (.slice none 0 0) ∧ Bx v w13.heap.size 25 (.bool false) (.slice av13 nU cv13) (.slice none 0 0)) → Below v.heap.size v v' → (Below wB.heap.size wB v' ∧ Bx v' w8.heap.size 25 (.bool false) (.slice av8 nU cv8) (.slice none 0 0) ∧ Bx v' w13.heap.size 25 (.bool false) (.slice av13 nU cv13) (.slice none 0 0))) := fun v v' ⟨k, h8, h13⟩ q => ⟨ch k q, h8.keep (q.block _ h8.lt), h13.keep (q.block _ h13.lt)⟩
  have HLJ : Hid (∀ w', Below wB.heap.size wB w' → Og 25 [90] w' wA.heap.size w5.heap.size x (.slice c1 c2 c3) (.slice c4 c5 c6) ∧ Lies Vb w' x (.slice a1 n1 k1) (.slice a2 n2 k2)) := fun w' k => ⟨HB.out.2.2.2.1.same (fun q q1 q2 => k.block q (by have := HB.out.2.2.2.2.2; omega)), HL.out w' (ch HA.out.2.2.1 (ch HB.out.2.2.1 k))⟩
  have HTN : Hid (∀ wd wx wy, Below wE.heap.size wE wd → Below wd.heap.size wd wx → Turn (Blk [.slice av6 nS cv6, .slice av10 nS cv10, .slice av12 12 cv12, .slice av8 nU cv8, .slice av13 nU cv13]) wx wy → (Below wB.heap.size wB wy ∧ Bx wy w8.heap.size 25 (.bool false) (.slice av8 nU cv8) (.slice none 0 0) ∧ Bx wy w13.heap.size 25 (.bool false) (.slice av13 nU cv13) (.slice none 0 0))) := fun wd wx wy k q t => by
    have kx := ch k q
    have nb : ∀ g (c : Array Value), wE.heap[g]? = some (.cells c 25 (0, 0)) → ¬ Blk [.slice av6 nS cv6, .slice av10 nS cv10, .slice av12 12 cv12, .slice av8 nU cv8, .slice av13 nU cv13] g := fun g c hc hb => by
      obtain ⟨hl, cur, h2⟩ := HNX.out wE (Below.refl _ _) g hb
      rw [hc] at h2
      injection h2 with h2
      injection h2 with _ h2
      exact absurd h2 (by decide)
    have x8 := HX.out.2.2.1
    have x13 := HX.out.2.2.2
    refine ⟨(ch HBE.out.1 kx).trans (t.below HLO.out (ch HBE.out.1 kx).size), ?_, ?_⟩
    · exact x8.keep ((t.block _ (by have := kx.size; have := x8.lt; omega) (nb _ _ x8)).trans (kx.block _ x8.lt))
    · exact x13.keep ((t.block _ (by have := kx.size; have := x13.lt; omega) (nb _ _ x13)).trans (kx.block _ x13.lt))
  have HBD : Hid (Below wE.heap.size wE w20.drew) := Below.drew HB20.out
  refine wp_region_held_drew (S := fun w' => Below wB.heap.size wB w' ∧ Bx w' w8.heap.size 25 (.bool false) (.slice av8 nU cv8) (.slice none 0 0) ∧ Bx w' w13.heap.size 25 (.bool false) (.slice av13 nU cv13) (.slice none 0 0)) (by kernel_rfl) (⟨ch HBE.out.1 (Below.drew HB20.out), HX.out.2.2.1.keep ((Below.drew HB20.out).block _ HX.out.2.2.1.lt), HX.out.2.2.2.keep ((Below.drew HB20.out).block _ HX.out.2.2.2.lt)⟩) ?_
  intro hS
  change wpAnyH _ _ _ _ _ 20 _ _ _
  generalize w20.drew = wd at hS HBD ⊢
  refine wpAnyH_take (i := 0) (v := (.slice av6 nS cv6)) (by simp only [List.getElem?_toArray, List.getElem?_cons_zero]; rfl) (by kernel_rfl) (by kernel_rfl) (by kernel_rfl) (by exact fun _ _ _ h => h) (y_move (by kernel_rfl) _ rfl _ rfl) hS ?_
  try simp only [Act.put, List.setIfInBounds_toArray, List.set_cons_zero, List.set_cons_succ]
  refine wpAnyH_take (i := 1) (v := (.slice av10 nS cv10)) (by simp only [List.getElem?_toArray, List.getElem?_cons_zero, List.getElem?_cons_succ]; rfl) (by kernel_rfl) (by kernel_rfl) (by kernel_rfl) (by exact fun _ _ _ h => h) (y_move (by kernel_rfl) _ rfl _ rfl) hS ?_
  try simp only [Act.put, List.setIfInBounds_toArray, List.set_cons_zero, List.set_cons_succ]
  refine wpAnyH_take (i := 2) (v := (.slice av12 12 cv12)) (by simp only [List.getElem?_toArray, List.getElem?_cons_zero, List.getElem?_cons_succ]; rfl) (by kernel_rfl) (by kernel_rfl) (by kernel_rfl) (by exact fun _ _ _ h => h) (y_move (by kernel_rfl) _ rfl _ rfl) hS ?_
  try simp only [Act.put, List.setIfInBounds_toArray, List.set_cons_zero, List.set_cons_succ]
  refine wpAnyH_take (i := 3) (v := (.pointer (some ⟨w8.heap.size, 1, none⟩))) (by simp only [List.getElem?_toArray, List.getElem?_cons_zero, List.getElem?_cons_succ]; rfl) (by kernel_rfl) (by kernel_rfl) (by kernel_rfl) (by exact fun _ _ _ h => h) (y_field25 (by kernel_rfl) _ rfl _ rfl) hS ?_
  try simp only [Act.put, List.setIfInBounds_toArray, List.set_cons_zero, List.set_cons_succ]
  refine wpAnyH_take (i := 4) (v := .slice av8 nU cv8) (by simp only [List.getElem?_toArray, List.getElem?_cons_zero, List.getElem?_cons_succ]; rfl) (by kernel_rfl) (by kernel_rfl) (by kernel_rfl) (by exact fun _ _ _ h => h) (y_loadB (by kernel_rfl) _ rfl _ _ rfl _ (fun w' hs => ((HS2.out w' hs).1).2.1)) hS ?_
  try simp only [Act.put, List.setIfInBounds_toArray, List.set_cons_zero, List.set_cons_succ]
  refine wpAnyH_take (i := 5) (v := (.pointer (some ⟨w13.heap.size, 1, none⟩))) (by simp only [List.getElem?_toArray, List.getElem?_cons_zero, List.getElem?_cons_succ]; rfl) (by kernel_rfl) (by kernel_rfl) (by kernel_rfl) (by exact fun _ _ _ h => h) (y_field25 (by kernel_rfl) _ rfl _ rfl) hS ?_
  try simp only [Act.put, List.setIfInBounds_toArray, List.set_cons_zero, List.set_cons_succ]
  refine wpAnyH_take (i := 6) (v := .slice av13 nU cv13) (by simp only [List.getElem?_toArray, List.getElem?_cons_zero, List.getElem?_cons_succ]; rfl) (by kernel_rfl) (by kernel_rfl) (by kernel_rfl) (by exact fun _ _ _ h => h) (y_loadB (by kernel_rfl) _ rfl _ _ rfl _ (fun w' hs => ((HS2.out w' hs).2.1).2.1)) hS ?_
  try simp only [Act.put, List.setIfInBounds_toArray, List.set_cons_zero, List.set_cons_succ]
  refine wpAnyH_ready (rs := [7]) (by kernel_rfl) (by simp) ?_
  refine AllReadyH.cons (by simp only [List.getElem?_toArray, List.getElem?_cons_zero, List.getElem?_cons_succ]; rfl) (fun K hK => ?_) AllReadyH.nil
  refine r_build5 _ _ _ _ _ rfl (by kernel_rfl) _ _ _ _ _ _ _ _ _ _ _ _ _ _ _ rfl rfl rfl rfl rfl ?_
  refine hK.out _ _ (HST.out _ _ hS (below_alloc _ _)) (fun hS => ?_)
  clear hK K
  try simp only [Act.put, List.setIfInBounds_toArray, List.set_cons_zero, List.set_cons_succ]
  refine wpAnyH_ready (rs := [8]) (by kernel_rfl) (by simp) ?_
  refine AllReadyH.cons (by simp only [List.getElem?_toArray, List.getElem?_cons_zero, List.getElem?_cons_succ]; rfl) (fun K hK => ?_) AllReadyH.nil
  refine r_call1 18 _ _ rfl (by kernel_rfl) _ rfl eApart ?_
  refine (HAP.out wd HBD.out).mono ?_
  rintro e w21 ⟨rfl, t21⟩
  have B21 := HTN.out wd _ w21 HBD.out (below_alloc _ _) t21
  refine ⟨_, rfl, ?_⟩
  refine hK.out _ _ B21 (fun hS => ?_)
  clear t21
  clear hK K
  try simp only [Act.put, List.setIfInBounds_toArray, List.set_cons_zero, List.set_cons_succ]
  refine wpAnyH_take (i := 9) (v := (.bool true)) (by simp only [List.getElem?_toArray, List.getElem?_cons_zero, List.getElem?_cons_succ]; rfl) (by kernel_rfl) (by kernel_rfl) (by kernel_rfl) (by exact fun _ _ _ h => h) (y_move (by kernel_rfl) _ rfl _ rfl) hS ?_
  try simp only [Act.put, List.setIfInBounds_toArray, List.set_cons_zero, List.set_cons_succ]
  refine wpAnyH_take (i := 10) (v := (.agg #[.bool l, .slice c1 c2 c3, .slice c4 c5 c6])) (by simp only [List.getElem?_toArray, List.getElem?_cons_zero, List.getElem?_cons_succ]; rfl) (by kernel_rfl) (by kernel_rfl) (by kernel_rfl) (by exact fun _ _ _ h => h) (y_load25 (by kernel_rfl) _ rfl _ rfl _ _ _ (fun w' hs => (HS2.out w' hs).2.2.1)) hS ?_
  try simp only [Act.put, List.setIfInBounds_toArray, List.set_cons_zero, List.set_cons_succ]
  refine wpAnyH_take (i := 12) (v := (.agg #[.bool l, .slice a1 n1 k1, .slice a2 n2 k2])) (by simp only [List.getElem?_toArray, List.getElem?_cons_zero, List.getElem?_cons_succ]; rfl) (by kernel_rfl) (by kernel_rfl) (by kernel_rfl) (by exact fun _ _ _ h => h) (y_load34 (by kernel_rfl) _ rfl _ rfl _ _ _ (fun w' hs => (HS2.out w' hs).2.2.2)) hS ?_
  try simp only [Act.put, List.setIfInBounds_toArray, List.set_cons_zero, List.set_cons_succ]
  refine wpAnyH_ready (rs := [11]) (by kernel_rfl) (by simp) ?_
  refine AllReadyH.cons (by simp only [List.getElem?_toArray, List.getElem?_cons_zero, List.getElem?_cons_succ]; rfl) (fun K hK => ?_) AllReadyH.nil
  refine r_call1 11 _ _ rfl (by kernel_rfl) _ rfl eBack ?_
  refine (back_any' x w21 _ _ l HEL.out (HLJ.out _ B21.1).1.lies).mono ?_
  rintro e w22 ⟨vb22, vi22, rfl, o22, bb22⟩
  have B22 := HST.out _ _ B21 bb22
  refine ⟨_, rfl, ?_⟩
  refine hK.out _ _ B22 (fun hS => ?_)
  clear hK K
  try simp only [Act.put, List.setIfInBounds_toArray, List.set_cons_zero, List.set_cons_succ]
  refine wpAnyH_ready (rs := [13]) (by kernel_rfl) (by simp) ?_
  refine AllReadyH.cons (by simp only [List.getElem?_toArray, List.getElem?_cons_zero, List.getElem?_cons_succ]; rfl) (fun K hK => ?_) AllReadyH.nil
  refine r_call2 10 _ _ _ rfl (by kernel_rfl) _ _ rfl rfl eSame ?_
  refine (same_any' x w22 _ _ _ _ l HEL.out o22.lies (HLJ.out _ B22.1).2).mono ?_
  rintro e w23 ⟨rfl, bb23⟩
  have B23 := HST.out _ _ B22 bb23
  refine ⟨_, rfl, ?_⟩
  refine hK.out _ _ B23 (fun hS => ?_)
  clear o22 bb22 bb23
  clear hK K
  try simp only [Act.put, List.setIfInBounds_toArray, List.set_cons_zero, List.set_cons_succ]
  refine wpAnyH_take (i := 14) (v := (.bool true)) (by simp only [List.getElem?_toArray, List.getElem?_cons_zero, List.getElem?_cons_succ]; rfl) (by kernel_rfl) (by kernel_rfl) (by kernel_rfl) (by exact fun _ _ _ h => h) (y_pick_t (by kernel_rfl) _ _ _ rfl _ rfl rfl) hS ?_
  try simp only [Act.put, List.setIfInBounds_toArray, List.set_cons_zero, List.set_cons_succ]
  refine wpAnyH_take (i := 15) (v := (.bool true)) (by simp only [List.getElem?_toArray, List.getElem?_cons_zero, List.getElem?_cons_succ]; rfl) (by kernel_rfl) (by kernel_rfl) (by kernel_rfl) (by exact fun _ _ _ h => h) (y_move (by kernel_rfl) _ rfl _ rfl) hS ?_
  try simp only [Act.put, List.setIfInBounds_toArray, List.set_cons_zero, List.set_cons_succ]
  refine wpAnyH_take (i := 16) (v := (.agg #[.bool l, .slice c1 c2 c3, .slice c4 c5 c6])) (by simp only [List.getElem?_toArray, List.getElem?_cons_zero, List.getElem?_cons_succ]; rfl) (by kernel_rfl) (by kernel_rfl) (by kernel_rfl) (by exact fun _ _ _ h => h) (y_load25 (by kernel_rfl) _ rfl _ rfl _ _ _ (fun w' hs => (HS2.out w' hs).2.2.1)) hS ?_
  try simp only [Act.put, List.setIfInBounds_toArray, List.set_cons_zero, List.set_cons_succ]
  refine wpAnyH_ready (rs := [17]) (by kernel_rfl) (by simp) ?_
  refine AllReadyH.cons (by simp only [List.getElem?_toArray, List.getElem?_cons_zero, List.getElem?_cons_succ]; rfl) (fun K hK => ?_) AllReadyH.nil
  refine r_call1 24 _ _ rfl (by kernel_rfl) _ rfl eMark ?_
  refine (marked_any' x w23 _ _ l HEL.out (HLJ.out _ B23.1).1.marks).mono ?_
  rintro e w24 ⟨rfl, bb24⟩
  have B24 := HST.out _ _ B23 bb24
  refine ⟨_, rfl, ?_⟩
  refine hK.out _ _ B24 (fun hS => ?_)
  clear bb24
  clear hK K
  try simp only [Act.put, List.setIfInBounds_toArray, List.set_cons_zero, List.set_cons_succ]
  refine wpAnyH_take (i := 18) (v := (.bool true)) (by simp only [List.getElem?_toArray, List.getElem?_cons_zero, List.getElem?_cons_succ]; rfl) (by kernel_rfl) (by kernel_rfl) (by kernel_rfl) (by exact fun _ _ _ h => h) (y_pick_t (by kernel_rfl) _ _ _ rfl _ rfl rfl) hS ?_
  try simp only [Act.put, List.setIfInBounds_toArray, List.set_cons_zero, List.set_cons_succ]
  refine wpAnyH_take (i := 19) (v := (.bool true)) (by simp only [List.getElem?_toArray, List.getElem?_cons_zero, List.getElem?_cons_succ]; rfl) (by kernel_rfl) (by kernel_rfl) (by kernel_rfl) (by exact fun _ _ _ h => h) (y_assign (by kernel_rfl) _ rfl _ rfl) hS ?_
  try simp only [Act.put, List.setIfInBounds_toArray, List.set_cons_zero, List.set_cons_succ]
  refine wpAnyH_done (by kernel_rfl) ?_ _
  have HZ : Hid (Below w.heap.size w w24) := ch HW1.out.2 (ch HA.out.2.2.1 (ch HB.out.2.2.1 B24.1))
  clear hS B21 B22 B23 B24
  go_wp2_with fail
  go_ret
  exact ⟨rfl, HZ.out⟩
end Go.Proofs.Ytlpmcdnhnhgmpaa
