import Derived.Test.YtlhllbggnpcoaaaGreatDoorRPr
import Derived.Test.YtlhllbggnpcoaaaGreatDoorPpr
import Derived.Test.YtlhllbggnpcoaaaGreatDoorFal
import Derived.Test.YtlhllbggnpcoaaaGreatDoorRBa
/-
  The reference's book: Clashes, Twins, Forgeries, Sound.
-/
namespace Go.Proofs.YtlhllbggnpcoaaaGreatDoor
open Go.RowKit Go.Sort Go.Maps

/-- no string of a book is longer than a machine holds -/
structure Small (st : Bst) : Prop where
  h : st.LH.length ≤ 274877906944
  c : st.LC.length ≤ 274877906944
  f : st.LF.length ≤ 274877906944
  sh : ∀ s ∈ st.LH, s.length ≤ 140737488351232
  sc : ∀ s ∈ st.LC, s.length ≤ 140737488351232
  sf : ∀ s ∈ st.LF, s.length ≤ 140737488351232
theorem map_mem_len {Q : List FG} {L : List (List Nat)} (e : Q.map FG.s = L) (h : ∀ s ∈ L, s.length ≤ 140737488351232) : ∀ q ∈ Q, q.s.length ≤ 140737488351232 := fun q hq => h q.s (by rw [← e]; exact List.mem_map.2 ⟨q, hq, rfl⟩)
theorem map_len {Q : List FG} {L : List (List Nat)} (e : Q.map FG.s = L) : Q.length = L.length := by rw [← e]; simp

set_option maxRecDepth 100000 in
set_option maxHeartbeats 1600000 in
theorem rb_clashes (w : World) (B qb : Nat) (st : Bst) (F : Nat → Prop) (h : RB w B qb st F) (hS : Small st) :
    Calls Tryz.prog 45 #[.pointer (some ⟨qb, 0, none⟩)] w fun e w' => ∃ v P, e = .returned v ∧ PAcc w w' v P ∧ P.map PR.ab = pairsL (kh st.bits) st.LH := by
  obtain ⟨sa, sB, sc, ah, ch, ac, cc, af, cf, Qh, Qc, Qf, hk⟩ := h
  have ce : w.cell? ⟨qb, 3, none⟩ = some (.slice ah Qh.length ch) := hk.row.cell (i := 3) (by decide)
  have rp := rpairs_any w F (.slice ah Qh.length ch) Qh (kh st.bits) hk.nh (by rw [hk.eh]; exact hk.rh) hk.kh_ (by rw [map_len hk.eh]; exact hS.h) (map_mem_len hk.eh hS.sh)
  rw [hk.eh] at rp
  clear hk hS
  go_enter Tryz.func45, Tryz.ntmps45
  go_wp2_with fail
  refine rp.mono ?_
  rintro _ w1 ⟨v, P, rfl, hp, he⟩
  have HP : Hid (PAcc w w1 v P ∧ P.map PR.ab = pairsL (kh st.bits) st.LH) := ⟨hp, he⟩
  clear hp he rp
  go_wp2_with fail
  go_ret
  exact ⟨v, P, rfl, HP.out⟩

set_option maxRecDepth 100000 in
set_option maxHeartbeats 1600000 in
theorem rb_twins (w : World) (B qb : Nat) (st : Bst) (F : Nat → Prop) (h : RB w B qb st F) (hS : Small st) :
    Calls Tryz.prog 46 #[.pointer (some ⟨qb, 0, none⟩)] w fun e w' => ∃ v P, e = .returned v ∧ PAcc w w' v P ∧ P.map PR.ab = pairsL (kc st.cbits st.S) st.LC := by
  obtain ⟨sa, sB, sc, ah, ch, ac, cc, af, cf, Qh, Qc, Qf, hk⟩ := h
  have ce : w.cell? ⟨qb, 4, none⟩ = some (.slice ac Qc.length cc) := hk.row.cell (i := 4) (by decide)
  have rp := rpairs_any w F (.slice ac Qc.length cc) Qc (kc st.cbits st.S) hk.nc (by rw [hk.ec]; exact hk.rc) hk.kc_ (by rw [map_len hk.ec]; exact hS.c) (map_mem_len hk.ec hS.sc)
  rw [hk.ec] at rp
  clear hk hS
  go_enter Tryz.func46, Tryz.ntmps46
  go_wp2_with fail
  refine rp.mono ?_
  rintro _ w1 ⟨v, P, rfl, hp, he⟩
  have HP : Hid (PAcc w w1 v P ∧ P.map PR.ab = pairsL (kc st.cbits st.S) st.LC) := ⟨hp, he⟩
  clear hp he rp
  go_wp2_with fail
  go_ret
  exact ⟨v, P, rfl, HP.out⟩

set_option maxRecDepth 100000 in
set_option maxHeartbeats 3200000 in
theorem rb_forgeries (w : World) (B qb : Nat) (st : Bst) (F : Nat → Prop) (h : RB w B qb st F) (hS : Small st) :
    Calls Tryz.prog 43 #[.pointer (some ⟨qb, 0, none⟩)] w fun e w' => ∃ v P, e = .returned v ∧ FAcc w w' v P ∧ P.map FG.s = st.LF ∧ (∀ q ∈ P, q.k = kc st.cbits st.S q.s) := by
  obtain ⟨sa, sB, sc, ah, ch, ac, cc, af, cf, Qh, Qc, Q, hk⟩ := h
  have HRB : Hid (RBk w B qb st F sa sB sc ah ch ac cc af cf Qh Qc Q ∧ Small st) := ⟨hk, hS⟩
  have hn : Q.length ≤ 274877906944 := by rw [map_len hk.ef]; exact hS.f
  have HCE : Hid (∀ v, Below w.heap.size w v → v.cell? ⟨qb, 5, none⟩ = some (.slice af Q.length cf)) := fun v hv => (hk.below hv).row.cell (i := 5) (by decide)
  clear hk hS
  go_enter Tryz.func43, Tryz.ntmps43
  go_wp2_with fail
  go_loopg [3, 4] Q.length (fun gg v ii wr => ∃ (i : Nat) (P : List FG), i ≤ Q.length ∧ gg = Q.length - i ∧ ii = .int .i64 i ∧ FAcc w wr v P ∧ P.map FG.s = st.LF.take i ∧ P.length = i ∧ (∀ q ∈ P, q.k = kc st.cbits st.S q.s))
  case atStart => exact ⟨0, [], Nat.zero_le _, rfl, rfl, FAcc.nil (Below.refl _ _), rfl, rfl, fun q hq => by simp at hq⟩
  case round =>
    obtain ⟨i, P, hi, rfl, rfl, pA, hP, hPl, hK⟩ := hrel
    have HA : Hid (FAcc w wr u3 P ∧ P.map FG.s = st.LF.take i ∧ P.length = i ∧ (∀ q ∈ P, q.k = kc st.cbits st.S q.s)) := ⟨pA, hP, hPl, hK⟩
    have ce := HCE.out wr pA.below
    clear pA hP hPl hK
    by_cases hiq : i < Q.length
    · have i1 : (i : Int) < (Q.length : Int) := by omega
      obtain ⟨g, cap, ev, _, _, _⟩ := HRB.out.1.nf.at_ (by omega)
      injection ev with ev1 _ ev3
      subst ev1
      subst ev3
      have HGL : Hid (g < w.heap.size) := by obtain ⟨cur, hc⟩ := HRB.out.1.nf.block; exact (Array.getElem?_eq_some_iff.1 hc).1
      obtain ⟨qi, eqi⟩ : ∃ qi, Q[i]? = some qi := ⟨_, List.getElem?_eq_getElem hiq⟩
      obtain ⟨⟨pi, gi, ci, cei, vwi, nli⟩, rgi, mi, _⟩ := HRB.out.1.nf.ix i qi eqi
      have HQI : Hid (Q[i]? = some qi ∧ qi.k = kc st.cbits st.S qi.s ∧ IsH qi.k ∧ qi.s.length ≤ 140737488351232) := ⟨eqi, HRB.out.1.kf_ _ mi, HRB.out.1.nf.key _ mi, map_mem_len HRB.out.1.ef HRB.out.2.sf _ mi⟩
      obtain ⟨k, ek⟩ : ∃ k, k = qi.k := ⟨_, rfl⟩
      obtain ⟨s, es⟩ : ∃ s, s = qi.s := ⟨_, rfl⟩
      rw [← ek] at rgi
      rw [← es] at cei vwi
      have HKH : Hid (IsH k) := by rw [ek]; exact HQI.out.2.2.1
      have HKE : Hid (k = qi.k ∧ s = qi.s ∧ s.length ≤ 140737488351232) := ⟨ek, es, by rw [es]; exact HQI.out.2.2.2⟩
      have HV : Hid ((∀ v, Below wr.heap.size wr v → Vw v pi gi 0 s) ∧ (pi = none → ci = 0) ∧ Bs s) := ⟨fun v hv => vwi.below (HA.out.1.below.trans (hv.mono HA.out.1.below.size)), nli, vw_ok vwi⟩
      have HCC : Hid (∀ v, Turn (fun i => u3.ownBlock = some i) wr v → v.cell? ⟨qb, 5, none⟩ = some (.slice (some ⟨g, 0, none⟩) Q.length cf) ∧ v.cell? ⟨g, i * 33, none⟩ = some (.slice pi s.length ci) ∧ v.rangeAt g (i * 33 + 1) (bv k)) := fun v hv => by
        obtain ⟨cur, hc⟩ := (HRB.out.1.nf.below HA.out.1.below).block
        have ne := own_ne_cells HA.out.1.own hc (by decide)
        have lg : g < wr.heap.size := (Array.getElem?_eq_some_iff.1 hc).1
        have rw_ := (HRB.out.1.below HA.out.1.below).row
        obtain ⟨cq, hcq, _⟩ := rw_
        have nq := own_ne_cells HA.out.1.own hcq (by decide)
        exact ⟨(hv.cell (q := ⟨qb, 5, none⟩) (Array.getElem?_eq_some_iff.1 hcq).1 nq).trans (HCE.out wr HA.out.1.below), ((hv.cell (q := ⟨g, i * 33, none⟩) lg ne).trans (HA.out.1.below.cell (p := ⟨g, i * 33, none⟩) HGL.out)).trans cei,
          fun j u hu => ((hv.cell (q := ⟨g, i * 33 + 1 + j, none⟩) lg ne).trans (HA.out.1.below.cell (p := ⟨g, i * 33 + 1 + j, none⟩) HGL.out)).trans (rgi j u hu)⟩
      clear cei vwi nli rgi mi eqi ek es
      go_wp2_with fail
      have bd : Below wr.heap.size wr wr.drew := (Turn.drew (F := fun _ => False) wr).below (fun _ f => f.elim) (Nat.le_refl _)
      have s0 : (fun v => Turn (fun i => u3.ownBlock = some i) wr v) wr.drew := Turn.drew wr
      have HBD : Hid (Below wr.heap.size wr wr.drew) := bd
      refine wp_region_held_drew (S := fun v => Turn (fun i => u3.ownBlock = some i) wr v) (by kernel_rfl) s0 ?_
      intro hS
      clear s0 bd ce
      change wpAnyH _ _ _ _ _ 23 _ _ _
      generalize wr.drew = wd at hS HBD ⊢
      refine wpAnyH_take (i := 0) (v := u3) (by simp only [List.getElem?_toArray, List.getElem?_cons_zero]; rfl) (by kernel_rfl) (by kernel_rfl) (by kernel_rfl) (by exact fun _ _ _ h => h) (y_move (by kernel_rfl) _ rfl _ rfl) hS ?_
      try simp only [Act.put, List.setIfInBounds_toArray, List.set_cons_zero, List.set_cons_succ]
      refine wpAnyH_take (i := 2) (v := (.pointer (some ⟨qb, 0, none⟩))) (by simp only [List.getElem?_toArray, List.getElem?_cons_zero, List.getElem?_cons_succ]; rfl) (by kernel_rfl) (by kernel_rfl) (by kernel_rfl) (by exact fun _ _ _ h => h) (y_move (by kernel_rfl) _ rfl _ rfl) hS ?_
      try simp only [Act.put, List.setIfInBounds_toArray, List.set_cons_zero, List.set_cons_succ]
      refine wpAnyH_take (i := 3) (v := (.pointer (some ⟨qb, 0, none⟩))) (by simp only [List.getElem?_toArray, List.getElem?_cons_zero, List.getElem?_cons_succ]; rfl) (by kernel_rfl) (by kernel_rfl) (by kernel_rfl) (by exact fun _ _ _ h => h) (y_nil (by kernel_rfl) _ rfl _ rfl) hS ?_
      try simp only [Act.put, List.setIfInBounds_toArray, List.set_cons_zero, List.set_cons_succ]
      refine wpAnyH_take (i := 4) (v := (.pointer (some ⟨qb, 5, none⟩))) (by simp only [List.getElem?_toArray, List.getElem?_cons_zero, List.getElem?_cons_succ]; rfl) (by kernel_rfl) (by kernel_rfl) (by kernel_rfl) (by exact fun _ _ _ h => h) (y_fieldQ (by kernel_rfl) _ 5 rfl qb rfl (by decide)) hS ?_
      try simp only [Act.put, List.setIfInBounds_toArray, List.set_cons_zero, List.set_cons_succ]
      refine wpAnyH_take (i := 5) (v := (.slice (some ⟨g, 0, none⟩) Q.length cf)) (by simp only [List.getElem?_toArray, List.getElem?_cons_zero, List.getElem?_cons_succ]; rfl) (by kernel_rfl) (by kernel_rfl) (by kernel_rfl) (by exact fun _ _ _ h => h) (y_loadN (by kernel_rfl) _ rfl qb 5 rfl _ (fun v hs => (HCC.out v hs).1)) hS ?_
      try simp only [Act.put, List.setIfInBounds_toArray, List.set_cons_zero, List.set_cons_succ]
      refine wpAnyH_take (i := 6) (v := (.int .i64 (i : Nat))) (by simp only [List.getElem?_toArray, List.getElem?_cons_zero, List.getElem?_cons_succ]; rfl) (by kernel_rfl) (by kernel_rfl) (by kernel_rfl) (by exact fun _ _ _ h => h) (y_move (by kernel_rfl) _ rfl _ rfl) hS ?_
      try simp only [Act.put, List.setIfInBounds_toArray, List.set_cons_zero, List.set_cons_succ]
      refine wpAnyH_take (i := 7) (v := (.pointer (some ⟨g, i * 33, none⟩))) (by simp only [List.getElem?_toArray, List.getElem?_cons_zero, List.getElem?_cons_succ]; rfl) (by kernel_rfl) (by kernel_rfl) (by kernel_rfl) (by exact fun _ _ _ h => h) (y_indexN (by kernel_rfl) _ _ rfl g Q.length cf i rfl rfl hiq) hS ?_
      try simp only [Act.put, List.setIfInBounds_toArray, List.set_cons_zero, List.set_cons_succ]
      refine wpAnyH_take (i := 8) (v := (.pointer (some ⟨g, i * 33 + 0, none⟩))) (by simp only [List.getElem?_toArray, List.getElem?_cons_zero, List.getElem?_cons_succ]; rfl) (by kernel_rfl) (by kernel_rfl) (by kernel_rfl) (by exact fun _ _ _ h => h) (y_fieldN (by kernel_rfl) _ 0 rfl g (i * 33) rfl (by decide)) hS ?_
      try simp only [Act.put, List.setIfInBounds_toArray, List.set_cons_zero, List.set_cons_succ]
      refine wpAnyH_take (i := 9) (v := (.slice pi s.length ci)) (by simp only [List.getElem?_toArray, List.getElem?_cons_zero, List.getElem?_cons_succ]; rfl) (by kernel_rfl) (by kernel_rfl) (by kernel_rfl) (by exact fun _ _ _ h => h) (y_loadB (by kernel_rfl) _ rfl g (i * 33 + 0) rfl _ (fun v hs => (HCC.out v hs).2.1)) hS ?_
      try simp only [Act.put, List.setIfInBounds_toArray, List.set_cons_zero, List.set_cons_succ]
      refine wpAnyH_take (i := 11) (v := (.pointer (some ⟨qb, 0, none⟩))) (by simp only [List.getElem?_toArray, List.getElem?_cons_zero, List.getElem?_cons_succ]; rfl) (by kernel_rfl) (by kernel_rfl) (by kernel_rfl) (by exact fun _ _ _ h => h) (y_move (by kernel_rfl) _ rfl _ rfl) hS ?_
      try simp only [Act.put, List.setIfInBounds_toArray, List.set_cons_zero, List.set_cons_succ]
      refine wpAnyH_take (i := 12) (v := (.pointer (some ⟨qb, 0, none⟩))) (by simp only [List.getElem?_toArray, List.getElem?_cons_zero, List.getElem?_cons_succ]; rfl) (by kernel_rfl) (by kernel_rfl) (by kernel_rfl) (by exact fun _ _ _ h => h) (y_nil (by kernel_rfl) _ rfl _ rfl) hS ?_
      try simp only [Act.put, List.setIfInBounds_toArray, List.set_cons_zero, List.set_cons_succ]
      refine wpAnyH_take (i := 13) (v := (.pointer (some ⟨qb, 5, none⟩))) (by simp only [List.getElem?_toArray, List.getElem?_cons_zero, List.getElem?_cons_succ]; rfl) (by kernel_rfl) (by kernel_rfl) (by kernel_rfl) (by exact fun _ _ _ h => h) (y_fieldQ (by kernel_rfl) _ 5 rfl qb rfl (by decide)) hS ?_
      try simp only [Act.put, List.setIfInBounds_toArray, List.set_cons_zero, List.set_cons_succ]
      refine wpAnyH_take (i := 14) (v := (.slice (some ⟨g, 0, none⟩) Q.length cf)) (by simp only [List.getElem?_toArray, List.getElem?_cons_zero, List.getElem?_cons_succ]; rfl) (by kernel_rfl) (by kernel_rfl) (by kernel_rfl) (by exact fun _ _ _ h => h) (y_loadN (by kernel_rfl) _ rfl qb 5 rfl _ (fun v hs => (HCC.out v hs).1)) hS ?_
      try simp only [Act.put, List.setIfInBounds_toArray, List.set_cons_zero, List.set_cons_succ]
      refine wpAnyH_take (i := 15) (v := (.int .i64 (i : Nat))) (by simp only [List.getElem?_toArray, List.getElem?_cons_zero, List.getElem?_cons_succ]; rfl) (by kernel_rfl) (by kernel_rfl) (by kernel_rfl) (by exact fun _ _ _ h => h) (y_move (by kernel_rfl) _ rfl _ rfl) hS ?_
      try simp only [Act.put, List.setIfInBounds_toArray, List.set_cons_zero, List.set_cons_succ]
      refine wpAnyH_take (i := 16) (v := (.pointer (some ⟨g, i * 33, none⟩))) (by simp only [List.getElem?_toArray, List.getElem?_cons_zero, List.getElem?_cons_succ]; rfl) (by kernel_rfl) (by kernel_rfl) (by kernel_rfl) (by exact fun _ _ _ h => h) (y_indexN (by kernel_rfl) _ _ rfl g Q.length cf i rfl rfl hiq) hS ?_
      try simp only [Act.put, List.setIfInBounds_toArray, List.set_cons_zero, List.set_cons_succ]
      refine wpAnyH_take (i := 17) (v := (.pointer (some ⟨g, i * 33 + 1, none⟩))) (by simp only [List.getElem?_toArray, List.getElem?_cons_zero, List.getElem?_cons_succ]; rfl) (by kernel_rfl) (by kernel_rfl) (by kernel_rfl) (by exact fun _ _ _ h => h) (y_fieldN (by kernel_rfl) _ 1 rfl g (i * 33) rfl (by decide)) hS ?_
      try simp only [Act.put, List.setIfInBounds_toArray, List.set_cons_zero, List.set_cons_succ]
      refine wpAnyH_take (i := 18) (v := (.agg (hA k))) (by simp only [List.getElem?_toArray, List.getElem?_cons_zero, List.getElem?_cons_succ]; rfl) (by kernel_rfl) (by kernel_rfl) (by kernel_rfl) (by exact fun _ _ _ h => h) (yieldsIf_load_mid (by kernel_rfl) _ _ rfl g (i * 33 + 1) rfl _ _ (fun v hs => (HCC.out v hs).2.2) Tryz.underlying31 rfl (hL_len HKH.out)) hS ?_
      try simp only [Act.put, List.setIfInBounds_toArray, List.set_cons_zero, List.set_cons_succ]
      refine wpAnyH_ready (rs := [1]) (by kernel_rfl) (by simp) ?_
      refine AllReadyH.cons (by simp only [List.getElem?_toArray, List.getElem?_cons_zero, List.getElem?_cons_succ]; rfl) (fun K hK => ?_) AllReadyH.nil
      go_simp
      have own0 := World.ownsRow_lit (base := wr.heap.size) (e := 5) (size := 1) wd #[] 0 HBD.out.size (by decide) rfl
      have b1 : Below wr.heap.size wr (wd.alloc (.cells #[] 5)) := HBD.out.alloc HBD.out.size _
      have HO : Hid ((wd.alloc (.cells #[] 5)).ownsRow wr.heap.size 5 1 (.slice (some ⟨wd.heap.size, 0, none⟩) 0 0) 0 [] ∧ Below wr.heap.size wr (wd.alloc (.cells #[] 5))) := ⟨own0, b1⟩
      refine hK.out _ _ (Turn.of_below b1) (fun hS => ?_)
      clear hK K own0 b1 HBD
      try simp only [Act.put, List.setIfInBounds_toArray, List.set_cons_zero, List.set_cons_succ]
      refine wpAnyH_ready (rs := [10]) (by kernel_rfl) (by simp) ?_
      refine AllReadyH.cons (by simp only [List.getElem?_toArray, List.getElem?_cons_zero, List.getElem?_cons_succ]; rfl) (fun K hK => ?_) AllReadyH.nil
      refine step_append_bytes_at (by rfl) _ _ rfl wr.heap.size _ 0 [] rfl HO.out.1 pi gi 0 ci s rfl (HV.out.1 _ HO.out.2) HV.out.2.1 (by have := HKE.out.2.2; omega) HO.out.2.size ?_
      intro v5 w5 own5 gr5 at5
      have own5' : w5.ownsRow wr.heap.size 5 1 v5 s.length (bv s) := by simpa using own5
      have b5 : Below wr.heap.size wr w5 := HO.out.2.trans (grown_below gr5 HO.out.1 (Nat.le_refl _) HO.out.2.size)
      obtain ⟨a5, c5, rfl⟩ := own_slice own5'
      have H5 : Hid (w5.ownsRow wr.heap.size 5 1 (.slice a5 s.length c5) s.length (bv s) ∧ Below wr.heap.size wr w5) := ⟨own5', b5⟩
      refine hK.out _ _ (Turn.of_below b5) (fun hS => ?_)
      clear hK K own5 own5' gr5 at5 b5 HO
      try simp only [Act.put, List.setIfInBounds_toArray, List.set_cons_zero, List.set_cons_succ]
      refine wpAnyH_take (i := 19) (v := (.agg (.slice a5 s.length c5 :: bv k).toArray)) (by simp only [List.getElem?_toArray, List.getElem?_cons_zero, List.getElem?_cons_succ]; rfl) (by kernel_rfl) (by kernel_rfl) (by kernel_rfl) (by exact fun _ _ _ h => h) (yieldsIf_build (by kernel_rfl) _ _ rfl _ (by simp only [List.map_toArray, List.map_cons, List.map_nil]; exact builtF' a5 s.length c5 HKH.out)) hS ?_
      try simp only [Act.put, List.setIfInBounds_toArray, List.set_cons_zero, List.set_cons_succ]
      refine wpAnyH_ready (rs := [20]) (by kernel_rfl) (by simp) ?_
      refine AllReadyH.cons (by simp only [List.getElem?_toArray, List.getElem?_cons_zero, List.getElem?_cons_succ]; rfl) (fun K hK => ?_) AllReadyH.nil
      refine r_buildF _ rfl (by kernel_rfl) a5 s.length c5 HKH.out rfl ?_
      have be : Below w5.heap.size w5 (w5.alloc (.cells (.slice a5 s.length c5 :: bv k).toArray 73)) := (Below.refl _ _).alloc (Nat.le_refl _) _
      have b6 : Below wr.heap.size wr (w5.alloc (.cells (.slice a5 s.length c5 :: bv k).toArray 73)) := H5.out.2.trans (be.mono H5.out.2.size)
      have HO : Hid ((w5.alloc (.cells (.slice a5 s.length c5 :: bv k).toArray 73)).ownsRow w.heap.size 73 33 u3 P.length (P.flatMap FG.enc) ∧ w.heap.size ≤ w5.heap.size) := ⟨(HA.out.1.step b6).own, Nat.le_trans HA.out.1.below.size H5.out.2.size⟩
      refine hK.out _ _ (Turn.of_below b6) (fun hS => ?_)
      clear hK K be b6
      try simp only [Act.put, List.setIfInBounds_toArray, List.set_cons_zero, List.set_cons_succ]
      refine wpAnyH_ready (rs := [21]) (by kernel_rfl) (by simp) ?_
      refine AllReadyH.cons (by simp only [List.getElem?_toArray, List.getElem?_cons_zero, List.getElem?_cons_succ]; rfl) (fun K hK => ?_) AllReadyH.nil
      obtain ⟨i0, hi0, hz0, hz1, hz2⟩ := info_parts infoF
      refine step_append_lies _ (by rfl) _ _ 37 rfl w.heap.size 73 i0 _ 33 56 Tryz.underlying37 hi0 hz0 hz1 hz2 (by rfl) (by decide) u3 P.length (P.flatMap FG.enc) rfl HO.out.1 ⟨w5.heap.size, 0, none⟩ 1 1 (.slice a5 s.length c5 :: bv k) rfl (by rw [List.length_cons, bv_len, HKH.out.1]) (World.news_of_block (cs := (.slice a5 s.length c5 :: bv k).toArray) (t := 73) (fr := (0, 0)) (heap_alloc_new _ _)) (fun u hu => ?_) (by decide) (by have := HA.out.2.2.1; unfold maxLen; omega) (by have := HA.out.2.2.1; omega) (by have := HO.out.2; simp; omega) _ rfl ?_
      · rcases List.mem_cons.1 hu with rfl | hu
        · rfl
        · obtain ⟨z, _, rfl⟩ := List.mem_map.1 hu; rfl
      intro g9 cap9 w9 own9 gr9 at9 lt9
      obtain ⟨hA9, T9⟩ := HA.out.1.push H5.out.2 H5.out.1 HV.out.2.2 HKH.out own9 gr9
      have HA9 : Hid (FAcc w w9 (.slice (some ⟨g9, 0, none⟩) (P.length + 1) cap9) (P ++ [(⟨.slice a5 s.length c5, s, k⟩ : FG)]) ∧ (P ++ [(⟨.slice a5 s.length c5, s, k⟩ : FG)]).map FG.s = st.LF.take (i + 1) ∧ (P ++ [(⟨.slice a5 s.length c5, s, k⟩ : FG)]).length = i + 1 ∧ ∀ q ∈ P ++ [(⟨.slice a5 s.length c5, s, k⟩ : FG)], q.k = kc st.cbits st.S q.s) := ⟨hA9, by
        rw [List.map_append, HA.out.2.1, List.take_add_one, ← HRB.out.1.ef, List.getElem?_map, HQI.out.1]
        show _ ++ [s] = _ ++ [qi.s]
        rw [HKE.out.2.1], by rw [List.length_append, HA.out.2.2.1]; rfl, fun q hq => by
        rcases List.mem_append.1 hq with hq | hq
        · exact HA.out.2.2.2 q hq
        · rw [List.mem_singleton] at hq
          subst hq
          show k = kc st.cbits st.S s
          rw [HKE.out.1, HKE.out.2.1]
          exact HQI.out.2.1⟩
      refine hK.out _ _ T9 (fun hS => ?_)
      clear hK K hA9 T9 own9 gr9 at9 lt9 hi0 hz0 hz1 hz2 HO HCC HV H5 HA
      try simp only [Act.put, List.setIfInBounds_toArray, List.set_cons_zero, List.set_cons_succ]
      refine wpAnyH_take (i := 22) (v := (.slice (some ⟨g9, 0, none⟩) (P.length + 1) cap9)) (by simp only [List.getElem?_toArray, List.getElem?_cons_zero, List.getElem?_cons_succ]; rfl) (by kernel_rfl) (by kernel_rfl) (by kernel_rfl) (by exact fun _ _ _ h => h) (y_assign (by kernel_rfl) _ rfl _ rfl) hS ?_
      try simp only [Act.put, List.setIfInBounds_toArray, List.set_cons_zero, List.set_cons_succ]
      refine wpAnyH_done (by kernel_rfl) ?_ _
      clear hS
      go_wp2_with fail
      go_roundg (Q.length - (i + 1))
      case measure => omega
      case rel => exact ⟨i + 1, _, hiq, rfl, by go_num, HA9.out⟩
    · have ei : i = Q.length := by omega
      have i1 : ¬ ((i : Int) < (Q.length : Int)) := by omega
      have HB : Hid (FAcc w wr u3 P ∧ P.map FG.s = st.LF ∧ ∀ q ∈ P, q.k = kc st.cbits st.S q.s) := ⟨HA.out.1, by rw [HA.out.2.1, ei, map_len HRB.out.1.ef, List.take_length], HA.out.2.2.2⟩
      clear ei HA
      go_wp2_with fail
      go_ret
      exact ⟨u3, rfl, P, HB.out⟩

set_option maxRecDepth 100000 in
set_option maxHeartbeats 1600000 in
theorem rb_sound (w : World) (B qb : Nat) (st : Bst) (F : Nat → Prop) (h : RB w B qb st F) (hS : Small st) :
    Calls Tryz.prog 47 #[.pointer (some ⟨qb, 0, none⟩)] w fun e w' => e = .returned (.bool (decide (Lone (kh st.bits) st.LH) && decide (Lone (kc st.cbits st.S) st.LC) && decide (st.LF.length = 0))) ∧ Below w.heap.size w w' := by
  have hc := rb_clashes w B qb st F h hS
  have HM : Hid (∀ w', Below w.heap.size w w' → Calls Tryz.prog 46 #[.pointer (some ⟨qb, 0, none⟩)] w' fun e w'' => ∃ v P, e = .returned v ∧ PAcc w' w'' v P ∧ P.map PR.ab = pairsL (kc st.cbits st.S) st.LC) := fun w' hb => rb_twins w' B qb st F (h.below hb) hS
  have HR : Hid (Ris st.LH ∧ Ris st.LC) := by obtain ⟨sa, sB, sc, ah, ch, ac, cc, af, cf, Qh, Qc, Qf, hk⟩ := h; exact ⟨hk.rh, hk.rc⟩
  have HCE : Hid (∀ w', Below w.heap.size w w' → ∃ af cf, w'.cell? ⟨qb, 5, none⟩ = some (.slice af st.LF.length cf)) := by
    obtain ⟨sa, sB, sc, ah, ch, ac, cc, af, cf, Qh, Qc, Qf, hk⟩ := h
    exact fun w' hb => ⟨af, cf, by rw [← map_len hk.ef]; exact (hk.below hb).row.cell (i := 5) (by decide)⟩
  clear h hS
  go_enter Tryz.func47, Tryz.ntmps47
  go_wp2_with fail
  refine hc.mono ?_
  rintro _ w1 ⟨v1, P1, rfl, p1, e1⟩
  have l1 : P1.length = (pairsL (kh st.bits) st.LH).length := by rw [← e1]; simp
  have n1 : P1.length = 0 ↔ Lone (kh st.bits) st.LH := by rw [l1, List.length_eq_zero_iff]; exact pairsL_nil HR.out.1
  obtain ⟨a1, c1, ev1⟩ : ∃ a c, v1 = .slice a P1.length c := by
    rcases p1.own.2 with ⟨rfl, h0⟩ | ⟨g, cap, cur, rfl, _⟩
    · exact ⟨none, 0, by rw [h0]⟩
    · exact ⟨_, _, rfl⟩
  subst ev1
  have H1 : Hid (Below w.heap.size w w1) := p1.below
  have ht := HM.out w1 p1.below
  clear p1 e1 l1 hc HM
  go_wp2_with fail
  refine ht.mono ?_
  rintro _ w2 ⟨v2, P2, rfl, p2, e2⟩
  have l2 : P2.length = (pairsL (kc st.cbits st.S) st.LC).length := by rw [← e2]; simp
  have n2 : P2.length = 0 ↔ Lone (kc st.cbits st.S) st.LC := by rw [l2, List.length_eq_zero_iff]; exact pairsL_nil HR.out.2
  obtain ⟨a2, c2, ev2⟩ : ∃ a c, v2 = .slice a P2.length c := by
    rcases p2.own.2 with ⟨rfl, h0⟩ | ⟨g, cap, cur, rfl, _⟩
    · exact ⟨none, 0, by rw [h0]⟩
    · exact ⟨_, _, rfl⟩
  subst ev2
  have H2 : Hid (Below w.heap.size w w2) := H1.out.trans (p2.below.mono H1.out.size)
  obtain ⟨af, cf, ce⟩ := HCE.out w2 H2.out
  clear p2 e2 l2 ht HR HCE H1
  have HN1 : Hid (P1.length = 0 ↔ Lone (kh st.bits) st.LH) := n1
  have HN2 : Hid (P2.length = 0 ↔ Lone (kc st.cbits st.S) st.LC) := n2
  clear n1 n2
  generalize P1.length = m1 at *
  generalize P2.length = m2 at *
  by_cases q1 : m1 = 0
  · have HE1 : Hid (decide (Lone (kh st.bits) st.LH) = true) := decide_eq_true (HN1.out.1 q1)
    subst q1
    by_cases q2 : m2 = 0
    · have HE2 : Hid (decide (Lone (kc st.cbits st.S) st.LC) = true) := decide_eq_true (HN2.out.1 q2)
      subst q2
      go_wp2_with fail
      go_ret
      refine ⟨?_, H2.out⟩
      rw [HE1.out, HE2.out]
      by_cases z : st.LF.length = 0 <;> simp [z]
    · have HE2 : Hid (decide (Lone (kc st.cbits st.S) st.LC) = false) := decide_eq_false (fun z => q2 (HN2.out.2 z))
      go_wp2_with fail
      go_ret
      exact ⟨by rw [HE1.out, HE2.out]; rfl, H2.out⟩
  · have HE1 : Hid (decide (Lone (kh st.bits) st.LH) = false) := decide_eq_false (fun z => q1 (HN1.out.2 z))
    go_wp2_with fail
    go_ret
    exact ⟨by rw [HE1.out]; rfl, H2.out⟩
end Go.Proofs.YtlhllbggnpcoaaaGreatDoor
