import Derived.Test.YtadcbhjmbgenbaaDoorCmpbq
import Derived.Lib.SliceRun
import Derived.Shelf.Abstract
/-
  bytes.Compare, slices.BinarySearchFunc at strings.
-/
namespace Go.Proofs.YtadcbhjmbgenbaaDoor
open Go.RowKit Go.Shelf

theorem compare_any (w : World) (a a' : Option Addr) (b off c b' off' c' : Nat) (s t : List Nat) (h : Vw w a b off s) (h' : Vw w a' b' off' t) :
    Calls Tryd.prog 48 #[.slice a s.length c, .slice a' t.length c'] w fun e w' => e = .returned (.int .i64 (cmpL s t)) ∧ w' = w := by
  have hx : (callFunc 60 #[.slice a s.length c, .slice a' t.length c']).run Tryd.prog w = .ok (.value (.int .i64 (cmpL s t))) w := by
    rw [run_callFunc_extern Tryd.func60 (by kernel_rfl) (by kernel_rfl) (by kernel_rfl) (e := Extern.BytealgCompare.compare) (by kernel_rfl), run_compare h h' c c']
    rfl
  generalize cmpL s t = r at hx ⊢
  generalize s.length = n at hx ⊢
  generalize t.length = m at hx ⊢
  clear h h'
  go_enter Tryd.func48, Tryd.ntmps48
  go_wp2
  go_ret
  exact ⟨rfl, rfl⟩

theorem addr0 (g i : Nat) : (⟨g, 0, none⟩ : Addr).add i = ⟨g, i, none⟩ := by
  unfold Addr.add
  split <;> simp_all

set_option maxRecDepth 1000000 in
set_option maxHeartbeats 1600000 in
theorem bsearch_any (w : World) (v : Value) (xs : List Value) (ls : List (List Nat)) (F : Nat → Prop) (own : w.ownsRow 0 22 1 v ls.length xs) (st : Strs w F xs ls) (hr : Ris ls) (hl : ls.length ≤ 1099511627776)
    (a : Option Addr) (b off c : Nat) (t : List Nat) (ht : Vw w a b off t) :
    Calls Tryd.prog 47 #[v, .slice a t.length c, .func (.func 48) #[] #[]] w fun e w' => e = .returned (.tuple #[.int .i64 (pos t ls : Nat), .bool (decide (t ∈ ls))]) ∧ w' = w := by
  have eg : ∀ args w, (callFunc 48 args).run Tryd.prog w = .ok (.enter 48 args) w := enters_of Tryd.func48 (by kernel_rfl) rfl
  have hp := pos_le t ls
  have HF : Hid (t ∈ ls ↔ ∃ h : pos t ls < ls.length, ls[pos t ls] = t) := pos_found hr
  have HG : Hid (∀ i (hi : i < ls.length), i < pos t ls ↔ lt ls[i] t) := pos_get hr
  have HT : Hid (Vw w a b off t) := ht
  obtain ⟨K, hK⟩ : ∃ K, K = pos t ls := ⟨_, rfl⟩
  rw [← hK] at hp HF HG ⊢
  clear hK ht
  obtain ⟨m, hm⟩ : ∃ m, m = t.length := ⟨_, rfl⟩
  rw [← hm]
  have HM : Hid (m = t.length) := hm
  clear hm
  obtain ⟨N, hN⟩ : ∃ N, N = ls.length := ⟨_, rfl⟩
  have HN : Hid (N = ls.length) := hN
  rw [← hN] at own hl hp
  clear hN
  obtain ⟨va, g, cap, rfl, hva, hcl⟩ : ∃ va g cap, v = .slice va N cap ∧ (0 < N → va = some ⟨g, 0, none⟩) ∧ ∀ i u, i < N → xs[i]? = some u → w.cell? ⟨g, i, none⟩ = some u := by
    rcases own.2 with ⟨rfl, h0⟩ | ⟨g, cap, cur, rfl, _, hg, hnc, hcm, _, _⟩
    · exact ⟨none, 0, 0, by rw [h0], fun k => by omega, fun i u hi => by omega⟩
    · refine ⟨_, g, cap, rfl, fun _ => rfl, fun i u _ hu => ?_⟩
      have := own.cells (g := g) rfl i _ hu
      rwa [addr0] at this
  have HC : Hid (∀ i, i < N → ∃ ua ub uc, ∃ s : List Nat, (∃ hi : i < ls.length, ls[i] = s) ∧ w.cell? ⟨g, i, none⟩ = some (.slice ua s.length uc) ∧ Vw w ua ub 0 s) := by
    intro i hi
    have hi' : i < ls.length := by have := HN.out; omega
    obtain ⟨u, hu, su⟩ := st.get i hi'
    obtain ⟨ua, ub, uc, rfl, _, vu, _⟩ := su.view
    exact ⟨ua, ub, uc, ls[i], ⟨hi', rfl⟩, hcl i _ hi hu, vu⟩
  clear own st hcl
  obtain ⟨ans, hans⟩ : ∃ x, x = decide (t ∈ ls) := ⟨_, rfl⟩
  rw [← hans]
  have HA : Hid (ans = decide (t ∈ ls)) := hans
  clear hans
  go_enter Tryd.func47, Tryd.ntmps47
  go_wp2_with fail
  go_loopg [9, 10] N (fun gg i j wr => ∃ lo hi : Nat, lo ≤ K ∧ K ≤ hi ∧ hi ≤ N ∧ gg = hi - lo ∧ i = .int .i64 lo ∧ j = .int .i64 hi ∧ wr = w)
  case atStart => exact ⟨0, N, by omega, hp, by omega, by omega, rfl, rfl, rfl⟩
  case round =>
    obtain ⟨lo, hi, h1, h2, h3, rfl, rfl, rfl, rfl⟩ := hrel
    by_cases hlh : lo < hi
    · obtain rfl := hva (by omega)
      obtain ⟨q, hq⟩ : ∃ q, q = (lo + hi) / 2 := ⟨_, rfl⟩
      have q1 : lo ≤ q := by omega
      have q2 : q < hi := by omega
      obtain ⟨ua, ub, uc, s, ⟨hi1, hs1⟩, hcell, hvu⟩ := HC.out q (by omega)
      have hcmp := compare_any wr ua a ub 0 uc b off c s t hvu HT.out
      have HL : Hid (q < K ↔ cmpL s t < 0) := by
        have := HG.out q hi1
        rw [hs1] at this
        exact this
      rw [← HM.out] at hcmp
      clear hvu
      obtain ⟨r, hr'⟩ : ∃ r, r = cmpL s t := ⟨_, rfl⟩
      rw [← hr'] at hcmp HL
      clear hr' hs1 hi1
      generalize s.length = sl at hcell hcmp
      have hsum : (lo : Int) + (hi : Int) = ((lo + hi : Nat) : Int) := by omega
      have hA : (0 : Int) ≤ (lo : Int) + (hi : Int) := by omega
      have hB : (lo : Int) + (hi : Int) < 18446744073709551616 := by omega
      have hw1 : ((lo : Int) + (hi : Int)) / 2 = (q : Int) := by omega
      have q3 : (q : Int) < (N : Int) := by omega
      clear hsum
      have HQ : Hid (q = (lo + hi) / 2) := hq
      clear hq
      by_cases hc : r < 0
      · have HL2 : Hid (q < K) := HL.out.2 hc
        clear HL
        go_wp2_with (go_at_call 48; refine hcmp.mono ?_; rintro _ _ ⟨rfl, rfl⟩)
        go_roundg (hi - (q + 1))
        case measure => omega
        case rel => exact ⟨q + 1, hi, HL2.out, h2, h3, rfl, by go_num, rfl, rfl⟩
      · have HL2 : Hid (K ≤ q) := by
          have : ¬ q < K := fun k => hc (HL.out.1 k)
          show K ≤ q
          omega
        have hc' : decide (r < 0) = false := decide_eq_false hc
        clear HL hc
        go_wp2_with (go_at_call 48; refine hcmp.mono ?_; rintro _ _ ⟨rfl, rfl⟩)
        go_roundg (q - lo)
        case measure => omega
        case rel => exact ⟨lo, q, h1, HL2.out, by omega, rfl, rfl, rfl, rfl⟩
    · have HE : Hid (lo = K) := by show lo = K; omega
      have hlq : ¬ (lo : Int) < (hi : Int) := by omega
      clear hlh
      by_cases hKN : lo < N
      · obtain rfl := hva (by omega)
        obtain ⟨ua, ub, uc, s, ⟨hi1, hs1⟩, hcell, hvu⟩ := HC.out lo hKN
        have hcmp := compare_any wr ua a ub 0 uc b off c s t hvu HT.out
        have HD : Hid (ans = decide (cmpL s t = 0)) := by
          have e : (t ∈ ls) ↔ cmpL s t = 0 := by
            rw [HF.out, cmpL_zero, ← hs1]
            constructor
            · rintro ⟨h, k⟩
              rw [← k]
              congr 1
              try exact HE.out
            · intro k
              refine ⟨HE.out ▸ hi1, ?_⟩
              rw [← k]
              congr 1
              try exact HE.out.symm
          show ans = decide (cmpL s t = 0)
          rw [HA.out]
          by_cases k : cmpL s t = 0
          · rw [decide_eq_true k, decide_eq_true (e.2 k)]
          · rw [decide_eq_false k, decide_eq_false (fun q => k (e.1 q))]
        rw [← HM.out] at hcmp
        clear hvu hs1 hi1
        generalize cmpL s t = r at hcmp HD
        generalize s.length = sl at hcell hcmp
        have q3 : (lo : Int) < (N : Int) := by omega
        clear h1 h2 h3
        go_wp2_with (go_at_call 48; refine hcmp.mono ?_; rintro _ _ ⟨rfl, rfl⟩)
        go_ret2
        rw [HD.out, HE.out]
        exact ⟨rfl, rfl⟩
      · have HD : Hid (ans = false) := by
          have : ¬ t ∈ ls := fun k => by
            obtain ⟨h, _⟩ := HF.out.1 k
            have := HN.out
            have := HE.out
            omega
          show ans = false
          rw [HA.out]
          exact decide_eq_false this
        have q3 : ¬ (lo : Int) < (N : Int) := by omega
        clear h1 h2 h3
        go_wp2_with fail
        go_ret2
        rw [HD.out, HE.out]
        exact ⟨rfl, rfl⟩
end Go.Proofs.YtadcbhjmbgenbaaDoor
