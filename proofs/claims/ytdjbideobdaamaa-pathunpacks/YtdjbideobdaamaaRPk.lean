/-
  cairnref06.Pack.
-/
import Derived.Test.YtdjbideobdaamaaRBy
namespace Go.Proofs.Ytdjbideobdaamaa
open Go.RowKit

theorem Ans.lower {w w1 w2 : World} {v : Value} {s : List Nat} (h : Ans w1 w2 v s) (k : Below w.heap.size w w1) : Ans w w2 v s :=
  ⟨own_rebase h.own (fun g hg => Nat.le_trans k.size (h.own.lt g hg).1), h.byt, h.len, ch k h.below⟩
/-- the flag, as nibbles -/
def pfx (leaf : Bool) (s : List Nat) : List Nat := if s.length % 2 = 0 then [if leaf then 2 else 0, 0] else [(if leaf then 2 else 0) + 1]
theorem pfx_l (leaf : Bool) (s : List Nat) : (pfx leaf s).length = 2 - s.length % 2 := by
  unfold pfx
  split
  · rename_i h
    rw [h]; rfl
  · rw [show s.length % 2 = 1 by omega]; rfl
theorem pfx_ll (leaf : Bool) (s : List Nat) : (pfx leaf s ++ s).length = 2 * (1 + s.length / 2) := by
  rw [List.length_append, pfx_l]
  omega
theorem pfx_len (leaf : Bool) {s : List Nat} (h : s.length ≤ 64) : (pfx leaf s ++ s).length ≤ 4194304 := by
  rw [pfx_ll]
  omega
theorem pfx_gd (leaf : Bool) (s : List Nat) (j : Nat) : gd (pfx leaf s ++ s) j = pn leaf s j := by
  have hl := pfx_l leaf s
  unfold pn
  by_cases q : j < (pfx leaf s).length
  · rw [gd_app_l q]
    rw [hl] at q
    unfold pfx
    by_cases o : s.length % 2 = 0
    · rw [if_pos o, o]
      by_cases z : j = 0
      · subst z; rfl
      · have : j = 1 := by omega
        subst this
        rfl
    · have o1 : s.length % 2 = 1 := by omega
      have : j = 0 := by omega
      subst this
      rw [if_neg o, if_pos rfl, o1]
      rfl
  · rw [hl] at q
    have := Nat.mod_lt s.length (show 0 < 2 by decide)
    rw [if_neg (by omega), if_neg (by omega)]
    have e : j = (pfx leaf s).length + (j - (2 - s.length % 2)) := by rw [hl]; omega
    conv => lhs; rw [e]
    rw [gd_app_r]
theorem pfx_nbs (leaf : Bool) {s : List Nat} (h : IsP s) : Nbs (pfx leaf s ++ s) := ⟨by rw [pfx_ll]; omega, fun i _ => by rw [pfx_gd]; exact pn_le leaf h.2 i⟩
theorem pfx_not (leaf : Bool) {s : List Nat} (hl : s.length ≤ 64) (h : ¬ IsP s) : ¬ Nbs (pfx leaf s ++ s) := fun k => h ⟨hl, fun i hi => by
  have := k.2 ((pfx leaf s).length + i) (by rw [List.length_append]; omega)
  rw [gd_app_r] at this
  exact this⟩
theorem pfx_jn (leaf : Bool) (s : List Nat) : jn (pfx leaf s ++ s) = pkL leaf s := by
  unfold jn pkL
  rw [pfx_ll, Nat.mul_div_cancel_left _ (by decide)]
  refine lst_congr (fun i _ => ?_)
  rw [pfx_gd, pfx_gd]
  rfl

set_option maxRecDepth 100000 in
set_option maxHeartbeats 800000 in
theorem rpack_0f (w : World) (a : Option Addr) (b off c : Nat) (s : List Nat) (hv : Vw w a b off s) (hnil : a = none → c = 0) (hl : s.length ≤ 64) (ho : s.length % 2 = 0) :
    Calls Try.prog 11 #[.slice a s.length c, .bool false] w fun e w' => ∃ u, e = .returned (.tuple #[u, .int .i64 ((pkE s : Nat) : Int)]) ∧ Ans w w' u (pkR false s) := by
  have el : pfx false s = [0, 0] := by unfold pfx; rw [if_pos ho]; rfl
  have bw : Below w.heap.size w (w.alloc (.cells #[.int .u8 0, .int .u8 0] 5)) := (Below.refl _ _).alloc (Nat.le_refl _) _
  have own0 : (w.alloc (.cells #[.int .u8 0, .int .u8 0] 5)).ownsRow w.heap.size 5 1 (.slice (some ⟨w.heap.size, 0, none⟩) 2 2) 2 #[.int .u8 0, .int .u8 0].toList := World.ownsRow_lit (base := w.heap.size) (e := 5) (size := 1) w #[.int .u8 0, .int .u8 0] 2 (Nat.le_refl _) (by decide) rfl
  have HW : Hid (View (w.alloc (.cells #[.int .u8 0, .int .u8 0] 5)) a b off s.length (fun i => ((gd s i : Nat) : Int)) ∧ Below w.heap.size w (w.alloc (.cells #[.int .u8 0, .int .u8 0] 5))) := ⟨hv.below bw, bw⟩
  have HE : Hid (pfx false s = [0, 0] ∧ s.length ≤ 64 ∧ ∀ x ∈ s, x < 256) := ⟨el, hl, (vw_ok hv).2⟩
  have e1 : ((s.length : Int) % 2 == 1) = false := by simp; omega
  clear el bw hv
  obtain ⟨n, en⟩ : ∃ n, n = s.length := ⟨_, rfl⟩
  have HN : Hid (n = s.length) := en
  rw [← en] at hl e1 ho HW ⊢
  clear en
  go_enter Try.func11, Try.ntmps11
  go_wp2_with (refine wpList_append_bytes (by rfl) (.tmp 23) (.tmp 24) (by rfl) w.heap.size _ 2 _ (by rfl) own0 a b off n c _ (by rfl) HW.out.1 hnil (by omega) (by simp) ?_)
  intro v1 w1 own1 gr1 nn1
  have b1 : Below w.heap.size w w1 := HW.out.2.trans (grown_below gr1 own0 (Nat.le_refl _) (by simp))
  have A1 : Ans w w1 v1 (pfx false s ++ s) := by
    have e := HE.out
    refine ⟨?_, fun x hx => ?_, ?_, b1⟩
    · rw [e.1, List.length_append, ← HN.out, bv_app]
      have z := vals_bv s
      rw [← HN.out] at z
      rw [← z]
      exact own1
    · rw [e.1] at hx
      rcases List.mem_append.1 hx with q | q
      · have : ∀ y ∈ [0, 0], y < 256 := by decide
        exact this x q
      · exact e.2.2 x q
    · rw [e.1, List.length_append, ← HN.out]
      simp only [List.length_cons, List.length_nil]
      omega
  have HA : Hid (Ans w w1 v1 (pfx false s ++ s)) := A1
  clear own1 gr1 nn1 own0 HW b1 A1
  by_cases hp : IsP s
  · have HP : Hid (IsP s) := hp
    clear hp
    go_wp2_with fail
    refine (rbyt_yes HA.out.vb (pfx_len false HE.out.2.1) (pfx_nbs false HP.out)).mono ?_
    rintro e w2 ⟨u, rfl, h2⟩
    have H2 : Hid (Ans w w2 u (pkL false s)) := by
      rw [pfx_jn] at h2
      exact h2.lower HA.out.below
    clear h2
    go_wp2_with fail
    go_ret2
    refine ⟨_, by rw [show pkE s = 0 from if_pos HP.out]; rfl, ?_⟩
    rw [show pkR false s = pkL false s from if_pos HP.out]
    exact H2.out
  · have HP : Hid (¬ IsP s) := hp
    clear hp
    go_wp2_with fail
    refine (rbyt_no HA.out.vb (pfx_len false HE.out.2.1) (pfx_not false HE.out.2.1 HP.out)).mono ?_
    rintro e w2 ⟨rfl, h2⟩
    have H2 : Hid (Below w.heap.size w w2) := ch HA.out.below h2
    clear h2
    go_wp2_with fail
    go_ret2
    refine ⟨_, by rw [show pkE s = 60 from if_neg HP.out]; rfl, ?_⟩
    rw [show pkR false s = [] from if_neg HP.out]
    exact ans_nil H2.out

set_option maxRecDepth 100000 in
set_option maxHeartbeats 800000 in
theorem rpack_0t (w : World) (a : Option Addr) (b off c : Nat) (s : List Nat) (hv : Vw w a b off s) (hnil : a = none → c = 0) (hl : s.length ≤ 64) (ho : s.length % 2 = 0) :
    Calls Try.prog 11 #[.slice a s.length c, .bool true] w fun e w' => ∃ u, e = .returned (.tuple #[u, .int .i64 ((pkE s : Nat) : Int)]) ∧ Ans w w' u (pkR true s) := by
  have el : pfx true s = [2, 0] := by unfold pfx; rw [if_pos ho]; rfl
  have bw : Below w.heap.size w (w.alloc (.cells #[.int .u8 2, .int .u8 0] 5)) := (Below.refl _ _).alloc (Nat.le_refl _) _
  have own0 : (w.alloc (.cells #[.int .u8 2, .int .u8 0] 5)).ownsRow w.heap.size 5 1 (.slice (some ⟨w.heap.size, 0, none⟩) 2 2) 2 #[.int .u8 2, .int .u8 0].toList := World.ownsRow_lit (base := w.heap.size) (e := 5) (size := 1) w #[.int .u8 2, .int .u8 0] 2 (Nat.le_refl _) (by decide) rfl
  have HW : Hid (View (w.alloc (.cells #[.int .u8 2, .int .u8 0] 5)) a b off s.length (fun i => ((gd s i : Nat) : Int)) ∧ Below w.heap.size w (w.alloc (.cells #[.int .u8 2, .int .u8 0] 5))) := ⟨hv.below bw, bw⟩
  have HE : Hid (pfx true s = [2, 0] ∧ s.length ≤ 64 ∧ ∀ x ∈ s, x < 256) := ⟨el, hl, (vw_ok hv).2⟩
  have e1 : ((s.length : Int) % 2 == 1) = false := by simp; omega
  clear el bw hv
  obtain ⟨n, en⟩ : ∃ n, n = s.length := ⟨_, rfl⟩
  have HN : Hid (n = s.length) := en
  rw [← en] at hl e1 ho HW ⊢
  clear en
  go_enter Try.func11, Try.ntmps11
  go_wp2_with (refine wpList_append_bytes (by rfl) (.tmp 23) (.tmp 24) (by rfl) w.heap.size _ 2 _ (by rfl) own0 a b off n c _ (by rfl) HW.out.1 hnil (by omega) (by simp) ?_)
  intro v1 w1 own1 gr1 nn1
  have b1 : Below w.heap.size w w1 := HW.out.2.trans (grown_below gr1 own0 (Nat.le_refl _) (by simp))
  have A1 : Ans w w1 v1 (pfx true s ++ s) := by
    have e := HE.out
    refine ⟨?_, fun x hx => ?_, ?_, b1⟩
    · rw [e.1, List.length_append, ← HN.out, bv_app]
      have z := vals_bv s
      rw [← HN.out] at z
      rw [← z]
      exact own1
    · rw [e.1] at hx
      rcases List.mem_append.1 hx with q | q
      · have : ∀ y ∈ [2, 0], y < 256 := by decide
        exact this x q
      · exact e.2.2 x q
    · rw [e.1, List.length_append, ← HN.out]
      simp only [List.length_cons, List.length_nil]
      omega
  have HA : Hid (Ans w w1 v1 (pfx true s ++ s)) := A1
  clear own1 gr1 nn1 own0 HW b1 A1
  by_cases hp : IsP s
  · have HP : Hid (IsP s) := hp
    clear hp
    go_wp2_with fail
    refine (rbyt_yes HA.out.vb (pfx_len true HE.out.2.1) (pfx_nbs true HP.out)).mono ?_
    rintro e w2 ⟨u, rfl, h2⟩
    have H2 : Hid (Ans w w2 u (pkL true s)) := by
      rw [pfx_jn] at h2
      exact h2.lower HA.out.below
    clear h2
    go_wp2_with fail
    go_ret2
    refine ⟨_, by rw [show pkE s = 0 from if_pos HP.out]; rfl, ?_⟩
    rw [show pkR true s = pkL true s from if_pos HP.out]
    exact H2.out
  · have HP : Hid (¬ IsP s) := hp
    clear hp
    go_wp2_with fail
    refine (rbyt_no HA.out.vb (pfx_len true HE.out.2.1) (pfx_not true HE.out.2.1 HP.out)).mono ?_
    rintro e w2 ⟨rfl, h2⟩
    have H2 : Hid (Below w.heap.size w w2) := ch HA.out.below h2
    clear h2
    go_wp2_with fail
    go_ret2
    refine ⟨_, by rw [show pkE s = 60 from if_neg HP.out]; rfl, ?_⟩
    rw [show pkR true s = [] from if_neg HP.out]
    exact ans_nil H2.out

set_option maxRecDepth 100000 in
set_option maxHeartbeats 800000 in
theorem rpack_1f (w : World) (a : Option Addr) (b off c : Nat) (s : List Nat) (hv : Vw w a b off s) (hnil : a = none → c = 0) (hl : s.length ≤ 64) (ho : s.length % 2 = 1) :
    Calls Try.prog 11 #[.slice a s.length c, .bool false] w fun e w' => ∃ u, e = .returned (.tuple #[u, .int .i64 ((pkE s : Nat) : Int)]) ∧ Ans w w' u (pkR false s) := by
  have el : pfx false s = [1] := by unfold pfx; rw [if_neg (show ¬ s.length % 2 = 0 by omega)]; rfl
  have bw : Below w.heap.size w ((w.alloc (.cells #[.int .u8 0, .int .u8 0] 5)).alloc (.cells #[.int .u8 1] 5)) := ((Below.refl _ _).alloc (Nat.le_refl _) _).alloc (by simp) _
  have own0 : ((w.alloc (.cells #[.int .u8 0, .int .u8 0] 5)).alloc (.cells #[.int .u8 1] 5)).ownsRow w.heap.size 5 1 (.slice (some ⟨w.heap.size + 1, 0, none⟩) 1 1) 1 #[.int .u8 1].toList := by have h := World.ownsRow_lit (base := w.heap.size) (e := 5) (size := 1) (w.alloc (.cells #[.int .u8 0, .int .u8 0] 5)) #[.int .u8 1] 1 (by simp) (by decide) rfl; rw [World.size_alloc] at h; exact h
  have HW : Hid (View ((w.alloc (.cells #[.int .u8 0, .int .u8 0] 5)).alloc (.cells #[.int .u8 1] 5)) a b off s.length (fun i => ((gd s i : Nat) : Int)) ∧ Below w.heap.size w ((w.alloc (.cells #[.int .u8 0, .int .u8 0] 5)).alloc (.cells #[.int .u8 1] 5))) := ⟨hv.below bw, bw⟩
  have HE : Hid (pfx false s = [1] ∧ s.length ≤ 64 ∧ ∀ x ∈ s, x < 256) := ⟨el, hl, (vw_ok hv).2⟩
  have e1 : ((s.length : Int) % 2 == 1) = true := by simp; omega
  clear el bw hv
  obtain ⟨n, en⟩ : ∃ n, n = s.length := ⟨_, rfl⟩
  have HN : Hid (n = s.length) := en
  rw [← en] at hl e1 ho HW ⊢
  clear en
  go_enter Try.func11, Try.ntmps11
  go_wp2_with (refine wpList_append_bytes (by rfl) (.tmp 23) (.tmp 24) (by rfl) w.heap.size _ 1 _ (by rfl) own0 a b off n c _ (by rfl) HW.out.1 hnil (by omega) (by simp; omega) ?_)
  intro v1 w1 own1 gr1 nn1
  have b1 : Below w.heap.size w w1 := HW.out.2.trans (grown_below gr1 own0 (Nat.le_refl _) (by simp; omega))
  have A1 : Ans w w1 v1 (pfx false s ++ s) := by
    have e := HE.out
    refine ⟨?_, fun x hx => ?_, ?_, b1⟩
    · rw [e.1, List.length_append, ← HN.out, bv_app]
      have z := vals_bv s
      rw [← HN.out] at z
      rw [← z]
      exact own1
    · rw [e.1] at hx
      rcases List.mem_append.1 hx with q | q
      · have : ∀ y ∈ [1], y < 256 := by decide
        exact this x q
      · exact e.2.2 x q
    · rw [e.1, List.length_append, ← HN.out]
      simp only [List.length_cons, List.length_nil]
      omega
  have HA : Hid (Ans w w1 v1 (pfx false s ++ s)) := A1
  clear own1 gr1 nn1 own0 HW b1 A1
  by_cases hp : IsP s
  · have HP : Hid (IsP s) := hp
    clear hp
    go_wp2_with fail
    refine (rbyt_yes HA.out.vb (pfx_len false HE.out.2.1) (pfx_nbs false HP.out)).mono ?_
    rintro e w2 ⟨u, rfl, h2⟩
    have H2 : Hid (Ans w w2 u (pkL false s)) := by
      rw [pfx_jn] at h2
      exact h2.lower HA.out.below
    clear h2
    go_wp2_with fail
    go_ret2
    refine ⟨_, by rw [show pkE s = 0 from if_pos HP.out]; rfl, ?_⟩
    rw [show pkR false s = pkL false s from if_pos HP.out]
    exact H2.out
  · have HP : Hid (¬ IsP s) := hp
    clear hp
    go_wp2_with fail
    refine (rbyt_no HA.out.vb (pfx_len false HE.out.2.1) (pfx_not false HE.out.2.1 HP.out)).mono ?_
    rintro e w2 ⟨rfl, h2⟩
    have H2 : Hid (Below w.heap.size w w2) := ch HA.out.below h2
    clear h2
    go_wp2_with fail
    go_ret2
    refine ⟨_, by rw [show pkE s = 60 from if_neg HP.out]; rfl, ?_⟩
    rw [show pkR false s = [] from if_neg HP.out]
    exact ans_nil H2.out

set_option maxRecDepth 100000 in
set_option maxHeartbeats 800000 in
theorem rpack_1t (w : World) (a : Option Addr) (b off c : Nat) (s : List Nat) (hv : Vw w a b off s) (hnil : a = none → c = 0) (hl : s.length ≤ 64) (ho : s.length % 2 = 1) :
    Calls Try.prog 11 #[.slice a s.length c, .bool true] w fun e w' => ∃ u, e = .returned (.tuple #[u, .int .i64 ((pkE s : Nat) : Int)]) ∧ Ans w w' u (pkR true s) := by
  have el : pfx true s = [3] := by unfold pfx; rw [if_neg (show ¬ s.length % 2 = 0 by omega)]; rfl
  have bw : Below w.heap.size w ((w.alloc (.cells #[.int .u8 2, .int .u8 0] 5)).alloc (.cells #[.int .u8 3] 5)) := ((Below.refl _ _).alloc (Nat.le_refl _) _).alloc (by simp) _
  have own0 : ((w.alloc (.cells #[.int .u8 2, .int .u8 0] 5)).alloc (.cells #[.int .u8 3] 5)).ownsRow w.heap.size 5 1 (.slice (some ⟨w.heap.size + 1, 0, none⟩) 1 1) 1 #[.int .u8 3].toList := by have h := World.ownsRow_lit (base := w.heap.size) (e := 5) (size := 1) (w.alloc (.cells #[.int .u8 2, .int .u8 0] 5)) #[.int .u8 3] 1 (by simp) (by decide) rfl; rw [World.size_alloc] at h; exact h
  have HW : Hid (View ((w.alloc (.cells #[.int .u8 2, .int .u8 0] 5)).alloc (.cells #[.int .u8 3] 5)) a b off s.length (fun i => ((gd s i : Nat) : Int)) ∧ Below w.heap.size w ((w.alloc (.cells #[.int .u8 2, .int .u8 0] 5)).alloc (.cells #[.int .u8 3] 5))) := ⟨hv.below bw, bw⟩
  have HE : Hid (pfx true s = [3] ∧ s.length ≤ 64 ∧ ∀ x ∈ s, x < 256) := ⟨el, hl, (vw_ok hv).2⟩
  have e1 : ((s.length : Int) % 2 == 1) = true := by simp; omega
  clear el bw hv
  obtain ⟨n, en⟩ : ∃ n, n = s.length := ⟨_, rfl⟩
  have HN : Hid (n = s.length) := en
  rw [← en] at hl e1 ho HW ⊢
  clear en
  go_enter Try.func11, Try.ntmps11
  go_wp2_with (refine wpList_append_bytes (by rfl) (.tmp 23) (.tmp 24) (by rfl) w.heap.size _ 1 _ (by rfl) own0 a b off n c _ (by rfl) HW.out.1 hnil (by omega) (by simp; omega) ?_)
  intro v1 w1 own1 gr1 nn1
  have b1 : Below w.heap.size w w1 := HW.out.2.trans (grown_below gr1 own0 (Nat.le_refl _) (by simp; omega))
  have A1 : Ans w w1 v1 (pfx true s ++ s) := by
    have e := HE.out
    refine ⟨?_, fun x hx => ?_, ?_, b1⟩
    · rw [e.1, List.length_append, ← HN.out, bv_app]
      have z := vals_bv s
      rw [← HN.out] at z
      rw [← z]
      exact own1
    · rw [e.1] at hx
      rcases List.mem_append.1 hx with q | q
      · have : ∀ y ∈ [3], y < 256 := by decide
        exact this x q
      · exact e.2.2 x q
    · rw [e.1, List.length_append, ← HN.out]
      simp only [List.length_cons, List.length_nil]
      omega
  have HA : Hid (Ans w w1 v1 (pfx true s ++ s)) := A1
  clear own1 gr1 nn1 own0 HW b1 A1
  by_cases hp : IsP s
  · have HP : Hid (IsP s) := hp
    clear hp
    go_wp2_with fail
    refine (rbyt_yes HA.out.vb (pfx_len true HE.out.2.1) (pfx_nbs true HP.out)).mono ?_
    rintro e w2 ⟨u, rfl, h2⟩
    have H2 : Hid (Ans w w2 u (pkL true s)) := by
      rw [pfx_jn] at h2
      exact h2.lower HA.out.below
    clear h2
    go_wp2_with fail
    go_ret2
    refine ⟨_, by rw [show pkE s = 0 from if_pos HP.out]; rfl, ?_⟩
    rw [show pkR true s = pkL true s from if_pos HP.out]
    exact H2.out
  · have HP : Hid (¬ IsP s) := hp
    clear hp
    go_wp2_with fail
    refine (rbyt_no HA.out.vb (pfx_len true HE.out.2.1) (pfx_not true HE.out.2.1 HP.out)).mono ?_
    rintro e w2 ⟨rfl, h2⟩
    have H2 : Hid (Below w.heap.size w w2) := ch HA.out.below h2
    clear h2
    go_wp2_with fail
    go_ret2
    refine ⟨_, by rw [show pkE s = 60 from if_neg HP.out]; rfl, ?_⟩
    rw [show pkR true s = [] from if_neg HP.out]
    exact ans_nil H2.out

set_option maxRecDepth 100000 in
set_option maxHeartbeats 400000 in
theorem rpack_no (w : World) (a : Option Addr) (c n : Nat) (leaf : Bool) (hn : 64 < n) (hl : n ≤ 281474976710656) :
    Calls Try.prog 11 #[.slice a n c, .bool leaf] w fun e w' => e = .returned (.tuple #[.slice none 0 0, .int .i64 60]) ∧ w' = w := by
  go_enter Try.func11, Try.ntmps11
  go_wp2_with fail
  go_ret2
  exact ⟨rfl, rfl⟩
/-- P6.2, by definition -/
theorem rpack_vb {w : World} {v : Value} {s : List Nat} (leaf : Bool) (h : Vb w v s) :
    Calls Try.prog 11 #[v, .bool leaf] w fun e w' => ∃ u, e = .returned (.tuple #[u, .int .i64 ((pkE s : Nat) : Int)]) ∧ Ans w w' u (pkR leaf s) := by
  obtain ⟨a, b, off, c, rfl, hv, hc, hnil, _⟩ := h
  by_cases hl : s.length ≤ 64
  · by_cases ho : s.length % 2 = 0
    · cases leaf
      · exact rpack_0f w a b off c s hv hnil hl ho
      · exact rpack_0t w a b off c s hv hnil hl ho
    · have ho1 : s.length % 2 = 1 := by omega
      cases leaf
      · exact rpack_1f w a b off c s hv hnil hl ho1
      · exact rpack_1t w a b off c s hv hnil hl ho1
  · have hp : ¬ IsP s := fun h => hl h.1
    rw [show pkE s = 60 from if_neg hp, show pkR leaf s = [] from if_neg hp]
    refine (rpack_no w a c s.length leaf (by omega) hv.len).mono ?_
    rintro e w' ⟨rfl, rfl⟩
    exact ⟨_, rfl, ans_nil (Below.refl _ _)⟩
end Go.Proofs.Ytdjbideobdaamaa
