/-
  frame.headOf, frame.copied, bytes.Equal.
-/
import Derived.Test.YtnknhjabebcmeaaVb
import Derived.Test.YtnknhjabebcmeaaOw
import Derived.Test.YtnknhjabebcmeaaFr
namespace Go.Proofs.Ytnknhjabebcmeaa
open Go.RowKit

theorem xor255 : ∀ x : Nat, x < 256 → bits BinOp.xor IntKind.u8 (x : Int) 255 = ((255 - x : Nat) : Int) := by
  have h : ∀ x : Fin 256, bits BinOp.xor IntKind.u8 ((x.val : Nat) : Int) 255 = ((255 - x.val : Nat) : Int) := by decide +kernel
  intro x hx
  exact h ⟨x, hx⟩
set_option maxRecDepth 100000 in
set_option maxHeartbeats 800000 in
theorem headOf_any (w : World) (n : Nat) (hn : n < 16777216) :
    Calls Try.prog 20 #[.int .i64 n] w fun e w' => e = .returned (.agg (bv (hd7 n)).toArray) ∧ Below w.heap.size w w' := by
  have x1 := xor255 (n / 65536) (by omega)
  have x2 := xor255 (n / 256 % 256) (by omega)
  have x3 := xor255 (n % 256) (by omega)
  have HX : Hid (bits BinOp.xor IntKind.u8 (((n / 65536 : Nat) : Int)) 255 = ((255 - n / 65536 : Nat) : Int) ∧ bits BinOp.xor IntKind.u8 (((n / 256 % 256 : Nat) : Int)) 255 = ((255 - n / 256 % 256 : Nat) : Int) ∧ bits BinOp.xor IntKind.u8 (((n % 256 : Nat) : Int)) 255 = ((255 - n % 256 : Nat) : Int)) := ⟨x1, x2, x3⟩
  clear x1 x2 x3
  go_enter Try.func20, Try.ntmps20
  go_wp2
  refine bodyPost_ret (v := .agg (bv (hd7 n)).toArray) ?_ rfl ⟨rfl, (Below.refl _ _).alloc (Nat.le_refl _) _⟩
  have e1 : (n : Int) / 65536 = ((n / 65536 : Nat) : Int) := by omega
  have e2 : (n : Int) / 256 % 256 = ((n / 256 % 256 : Nat) : Int) := by omega
  have e3 : (n : Int) % 256 = ((n % 256 : Nat) : Int) := by omega
  rw [e1, e2, e3, HX.out.1, HX.out.2.1, HX.out.2.2]
  simp [results, Try.results20, go_sem, hd7, bv]

/-- WHAT IS HANDED OUT AND CUT OFF: as Ans. -/
structure AnT (w w' : World) (v : Value) (s : List Nat) : Prop where
  own : OwnT w' w.heap.size v s.length (bv s)
  byt : ∀ x ∈ s, x < 256
  len : s.length ≤ 140737488351232
  below : Below w.heap.size w w'
theorem Ans.ant {w w' : World} {v : Value} {s : List Nat} (h : Ans w w' v s) : AnT w w' v s := ⟨OwnT.of_own h.own, h.byt, h.len, h.below⟩
theorem stw_vb {w : World} {v : Value} {s : List Nat} (h : Stw w v s) (hl : s.length ≤ 140737488351232) : Vb w v s := by
  rcases h.own.2 with ⟨rfl, h0⟩ | ⟨g, cap, S, f, rfl, hB, r, h1, h2, h3, h4⟩
  · exact ⟨none, 0, 0, 0, by rw [h0], ⟨fun k => by omega, fun i hi => by omega, fun i hi => by omega, by omega⟩, by omega, fun _ => rfl, hl⟩
  · refine ⟨_, g, 0, cap, rfl, ⟨fun _ => rfl, fun i hi => ?_, fun i hi => ?_, h.ok.1⟩, h1, (fun z => by cases z), hl⟩
    · rw [Nat.zero_add]
      exact h.own.cell (bv_at hi)
    · have := gd_lt h.ok.2 i
      omega
theorem AnT.stw {w w' : World} {v : Value} {s : List Nat} (h : AnT w w' v s) : Stw w' v s := ⟨h.own.base (Nat.zero_le _), ⟨by have := h.len; omega, h.byt⟩⟩
theorem AnT.vb {w w' : World} {v : Value} {s : List Nat} (h : AnT w w' v s) : Vb w' v s := stw_vb h.stw h.len
theorem ant_nil {w w' : World} (h : Below w.heap.size w w') : AnT w w' (.slice none 0 0) [] := (ans_nil h).ant
theorem AnT.formE {w w' : World} {v : Value} {s : List Nat} (h : AnT w w' v s) : ∃ a n c, v = .slice a n c := by
  obtain ⟨a, c, e⟩ := h.own.slice
  exact ⟨a, _, c, e⟩

/-- three indexes: all of a list, and no room behind it -/
theorem slice_all (a : Option Addr) (n c : Nat) (h : n ≤ c) (w : World) : (Instr.slice 23 (.slice a n c) none (some (.int .i64 n)) (some (.int .i64 n))).run Try.prog w = .ok (.slice a n n) w := by
  rw [run_slice_hm w 23 a n c (by rw [elem24]; exact Try.underlying23) .i64 .i64 n n (by omega) (by omega) (by omega), elem24, size5]
  simp only [Result.andThen, sliced]
  congr 1
  cases a <;> simp [Addr.add]
set_option maxRecDepth 100000 in
set_option maxHeartbeats 800000 in
theorem copied_any (w : World) (a : Option Addr) (b off c : Nat) (s : List Nat) (hv : Vw w a b off s) (hnil : a = none → c = 0) (hl : s.length ≤ 140737488351232) :
    Calls Try.prog 23 #[.slice a s.length c] w fun e w' => ∃ v, e = .returned v ∧ AnT w w' v s := by
  have HV : Hid (Vw w a b off s) := hv
  clear hv
  go_enter Try.func23, Try.ntmps23
  go_wp2_with (at_builtin; (refine wpList_append_bytes (by rfl) (.const (.slice none 0 0)) (.tmp 4) (by rfl) w.heap.size _ 0 [] (by rfl) (World.ownsRow_nil _ _ _ _) a b off s.length c _ (by rfl) HV.out hnil (by omega) (by simp) ?_; intro v1 w1 own1 gr1 nn1))
  have b1 : Below w.heap.size w w1 := grown_below gr1 (World.ownsRow_nil _ w.heap.size 5 1) (Nat.le_refl _) (Nat.le_refl _)
  replace own1 : w1.ownsRow w.heap.size 5 1 v1 s.length (bv s) := by rw [← vals_bv s]; simpa using own1
  have ok := vw_ok HV.out
  have fin : ∀ u, OwnT w1 w.heap.size u s.length (bv s) → AnT w w1 u s := fun u hu => ⟨hu, ok.2, hl, b1⟩
  have HO : Hid (w1.ownsRow w.heap.size 5 1 v1 s.length (bv s) ∧ ∀ u, OwnT w1 w.heap.size u s.length (bv s) → AnT w w1 u s) := ⟨own1, fin⟩
  clear gr1 nn1 b1 fin ok HV
  obtain ⟨a1, c1, h1, e1⟩ : ∃ a1 c1, s.length ≤ c1 ∧ v1 = .slice a1 s.length c1 := by
    rcases own1.2 with ⟨rfl, h0⟩ | ⟨g, cap, cur, rfl, hB, hg, h1, h2, h3, h4⟩
    · exact ⟨none, 0, by omega, by rw [h0]⟩
    · exact ⟨_, _, h1, rfl⟩
  subst e1
  have j1 := slice_all a1 s.length c1 h1
  clear own1
  go_wp2_with fail
  rw [run_len_slice w1 23 3 a1 s.length c1 (by exact Try.underlying23)]
  go_wp2_with fail
  go_ret
  refine ⟨_, rfl, HO.out.2 _ ?_⟩
  have ho := HO.out.1
  rcases ho.2 with ⟨e, h0⟩ | ⟨g, cap, cur, e, hB, hg, h1, h2, h3, h4⟩
  · injection e with e1 e2 e3
    subst e1
    subst e3
    have := OwnT.of_own ho
    rw [h0] at this ⊢
    exact this
  · injection e with e1 e2 e3
    subst e1
    exact OwnT.tight ho

/-! ### strings -/
def sB (s : List Nat) : ByteArray := str s.length (fun i => ((gd s i : Nat) : Int))
theorem sB_inj {s t : List Nat} (hs : ∀ x ∈ s, x < 256) (ht : ∀ x ∈ t, x < 256) (h : sB s = sB t) : s = t := by
  have h1 : (sB s).data.toList = (sB t).data.toList := by rw [h]
  unfold sB str at h1
  rw [strOfNums_data, strOfNums_data] at h1
  have hl : s.length = t.length := by
    have := congrArg List.length h1
    simpa using this
  refine ext_gd hl (fun i hi => ?_)
  have h2 : (((List.range s.length).map (fun i => ((gd s i : Nat) : Int))).map fun n => UInt8.ofNat n.toNat)[i]? = (((List.range t.length).map (fun i => ((gd t i : Nat) : Int))).map fun n => UInt8.ofNat n.toNat)[i]? := by rw [h1]
  rw [List.getElem?_map, List.getElem?_map, List.getElem?_map, List.getElem?_map, List.getElem?_range hi, List.getElem?_range (by omega)] at h2
  have h3 : UInt8.ofNat (gd s i) = UInt8.ofNat (gd t i) := by simpa using h2
  have h4 := congrArg UInt8.toNat h3
  have a1 := gd_lt hs i
  have a2 := gd_lt ht i
  rw [UInt8.toNat_ofNat', UInt8.toNat_ofNat', Nat.mod_eq_of_lt (by omega), Nat.mod_eq_of_lt (by omega)] at h4
  exact h4
theorem vb_byt {w : World} {v : Value} {s : List Nat} (h : Vb w v s) : ∀ x ∈ s, x < 256 := by
  obtain ⟨a, b, off, c, rfl, hv, -⟩ := h
  exact (vw_ok hv).2
theorem sB_list (s : List Nat) : (sB s).toList = (sB s).data.toList := ByteArray.toList_eq _
theorem sB_ne {s t : List Nat} (hs : ∀ x ∈ s, x < 256) (ht : ∀ x ∈ t, x < 256) (h : s ≠ t) : sB s ≠ sB t ∧ ((sB s).toList == (sB t).toList) = false ∧ (sB s == sB t) = false := by
  have h1 : sB s ≠ sB t := fun e => h (sB_inj hs ht e)
  have h2 : ((sB s).toList == (sB t).toList) = false := by
    apply beq_eq_false_iff_ne.2
    intro e
    rw [sB_list, sB_list] at e
    exact h1 (ByteArray.ext (by rw [← Array.toList_inj]; exact e))
  exact ⟨h1, h2, by rw [beq_toListBytes]; exact h2⟩
theorem beq_sB {s t : List Nat} (hs : ∀ x ∈ s, x < 256) (ht : ∀ x ∈ t, x < 256) : (sB s == sB t) = decide (s = t) ∧ ((sB s).toList == (sB t).toList) = decide (s = t) ∧ decide (sB s = sB t) = decide (s = t) := by
  by_cases h : s = t
  · subst h
    rw [decide_eq_true rfl]
    exact ⟨by rw [beq_toListBytes]; exact beq_self_eq_true _, beq_self_eq_true _, decide_eq_true rfl⟩
  · obtain ⟨h1, h2, h3⟩ := sB_ne hs ht h
    rw [decide_eq_false h]
    exact ⟨h3, h2, decide_eq_false h1⟩
set_option maxRecDepth 100000 in
set_option maxHeartbeats 800000 in
theorem bEqual_any {w : World} {a a' : Option Addr} {b off b' off' c c' : Nat} {s t : List Nat} (h : Vw w a b off s) (h' : Vw w a' b' off' t) :
    Calls Try.prog 25 #[.slice a s.length c, .slice a' t.length c'] w fun e w' => e = .returned (.bool (decide (s = t))) ∧ w' = w := by
  have hb := beq_sB (vw_ok h).2 (vw_ok h').2
  have c1 : (convert 23 9 (.slice a s.length c)).run Try.prog w = .ok (.string (sB s)) w := convert_view h c
  have c2 : (convert 23 9 (.slice a' t.length c')).run Try.prog w = .ok (.string (sB t)) w := convert_view h' c'
  have HB : Hid ((sB s == sB t) = decide (s = t) ∧ ((sB s).toList == (sB t).toList) = decide (s = t) ∧ decide (sB s = sB t) = decide (s = t)) := hb
  clear hb h h'
  generalize sB s = x at *
  generalize sB t = y at *
  generalize decide (s = t) = z at *
  generalize s.length = n at *
  generalize t.length = m at *
  go_enter Try.func25, Try.ntmps25
  go_wp2
  go_ret
  exact ⟨by show Ending.returned (.bool (x.toList == y.toList)) = _; rw [HB.out.2.1], rfl⟩
end Go.Proofs.Ytnknhjabebcmeaa
