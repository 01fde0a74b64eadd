/-
  media.New with limits and choices that may be; what it makes is a device.
-/
import Derived.Test.YthjcndlapelnlaaLo
import Derived.Test.YthjcndlapelnlaaNn2
namespace Go.Proofs.Ythjcndlapelnlaa
open Go.RowKit Go.Maps Go.ChangeMaps

theorem new_ok {w : World} {sl rm : Int} {cv : Value} {C : List Cho} (h : limB sl rm = true) (hc : Chs w cv C) (hb : chsB C = true) :
    Calls Try.prog 5 #[.int .i64 sl, .int .i64 rm, cv] w fun e w' => ∃ g m1 m2 m3 cu, e = .returned (.tuple #[.pointer (some ⟨g, 0, none⟩), .int .i64 0]) ∧ New0 w w' g m1 m2 m3 cu sl rm C :=
  (new_of (R := fun x y w' => ∃ g m1 m2 m3 cu, x = .pointer (some ⟨g, 0, none⟩) ∧ y = .int .i64 0 ∧ New0 w w' g m1 m2 m3 cu sl rm C) ((load_ok h hc hb).mono (by
    rintro e w' ⟨g, m1, m2, m3, cu, rfl, hN⟩
    exact ⟨_, _, rfl, g, m1, m2, m3, cu, rfl, rfl, hN⟩))).mono (by
    rintro e w' ⟨x, y, rfl, g, m1, m2, m3, cu, rfl, rfl, hN⟩
    exact ⟨g, m1, m2, m3, cu, rfl, hN⟩)
/-- what New has made is a device -/
theorem New0.dev {w u : World} {g m1 m2 m3 : Nat} {cu : Value} {sl rm : Int} (h : New0 w u g m1 m2 m3 cu sl rm []) : Dev u (fun i => i = g ∨ i = m1 ∨ i = m2 ∨ i = m3) g (dst0 sl rm) 0 nilS := by
  have hm1 := h.maps.at_ m1 (by simp)
  have hm2 := h.maps.at_ m2 (by simp)
  have hm3 := h.maps.at_ m3 (by simp)
  have nd := h.maps.nd
  simp only [List.nodup_cons, List.mem_cons, List.not_mem_nil, or_false, not_or] at nd
  refine ⟨{ lg := nilS, ls := nilS, tc := nilS, ac := nilS, ch := cu, m1 := m1, m2 := m2, m3 := m3, D1 := .map [], D2 := .map [], D3 := .map [], V1 := fun _ => nilS, V2 := fun _ => nilS, V3 := fun _ => nilS, N := 0, E := fun _ => False }, h.db, ?_, Or.inl rfl, fun i q => ?_, Nat.le_refl _, rfl⟩
  · exact {
      bl := ⟨Mh.new hm1, fun k _ => rfl, fun k _ => Dat.nil _ _, rfl⟩
      ve := Rw.new hm2 (fun _ => trivial)
      st := Rw.new hm3 (fun k => ⟨rfl, [], rfl, rfl, fun i d x hd => by simp at hd⟩)
      lo := ⟨[], World.ownsRow_nil _ _ _ _⟩
      lof := fun b q => by simp [Value.ownBlock] at q
      lov := fun k b _ q => by simp [Value.ownBlock] at q
      ac := World.ownsRow_nil _ _ _ _
      acf := fun b q => by simp [Value.ownBlock] at q
      tc := World.ownsRow_nil _ _ _ _
      tcf := fun b q => by simp [Value.ownBlock] at q
      lg := Dat.nil _ _
      eF := fun i q => q.elim
      sep := fun i q => by simp [Value.ownBlock] at q
      md := ⟨nd.1.1, nd.1.2, nd.2.1⟩
      mf := ⟨Or.inr (Or.inl rfl), Or.inr (Or.inr (Or.inl rfl)), Or.inr (Or.inr (Or.inr rfl))⟩
      ch := own_slice h.cho.own
      up := fun k _ => ⟨⟨fun i j x y _ hx => by simp [dst0] at hx, fun x hx => by simp [dst0] at hx⟩, fun x hx => by simp [dst0] at hx⟩
      key := fun k hk => by simp [dst0] at hk
      bd := ⟨Nat.le_refl _, Nat.le_refl _, Nat.le_refl _⟩ }
  · rcases q with rfl | rfl | rfl | rfl
    · exact h.db.lt
    · exact h.maps.lt _ (by simp)
    · exact h.maps.lt _ (by simp)
    · exact h.maps.lt _ (by simp)
theorem newD (sl rm : Int) (h : limB sl rm = true) : NewD sl rm := fun w =>
  (new_ok (C := []) h ⟨none, 0, 0, 0, rfl, fun q => absurd q (by simp), fun i x hx => by simp at hx, Nat.le_refl _, fun _ => rfl, by simp⟩ rfl).mono (by
    rintro e w' ⟨g, m1, m2, m3, cu, rfl, hN⟩
    refine ⟨g, rfl, _, hN.dev, hN.maps.below, fun i q => ?_⟩
    rcases q with rfl | rfl | rfl | rfl
    · exact hN.ge
    · exact hN.maps.ge _ (by simp)
    · exact hN.maps.ge _ (by simp)
    · exact hN.maps.ge _ (by simp))
theorem newG {w : World} {cv : Value} {C : List Cho} (hc : Chs w cv C) (hb : chsB C = true) : Calls Try.prog 5 #[.int .i64 4096, .int .i64 1048576, cv] w fun e w' => ∃ g, e = .returned (.tuple #[.pointer (some ⟨g, 0, none⟩), .int .i64 0]) ∧ Below w.heap.size w w' :=
  (new_ok rfl hc hb).mono (by
    rintro e w' ⟨g, m1, m2, m3, cu, rfl, hN⟩
    exact ⟨g, rfl, hN.maps.below⟩)
end Go.Proofs.Ythjcndlapelnlaa
