/-
  An argument of the laws' type Two, opened: two slices of bytes, bounds, a text.
-/
import Derived.Test.YtglnjacaeefddaaDoorOpen
namespace Go.Proofs.YtglnjacaeefddaaDoor
open Go.ChangeShapes Go.WideShapes Go.ChangeAt Go.RowKit

theorem cells31 : Tryd.prog.cellsOf 31 = 6 := by kernel_rfl
theorem cells29 : Tryd.prog.cellsOf 29 = 3 := by kernel_rfl
theorem cells22 : Tryd.prog.cellsOf 22 = 1 := by kernel_rfl
theorem cells9 : Tryd.prog.cellsOf 9 = 1 := by kernel_rfl
theorem cells4 : Tryd.prog.cellsOf 4 = 1 := by kernel_rfl

theorem slice_of {H : Type} {enc : TypeId × Value → H} {W : World} {fuel : Nat} {c : Value} {x : DataW H × List MemPlace}
    (hf : DataW.trod enc Tryd.prog W 0 (fun _ => true) true fuel 22 [c] = some x) : ∃ a0 len cap, c = .slice a0 len cap := by
  rcases open_ints Tryd.underlying22 Tryd.underlying5 cells5 hf with ⟨hcs, _⟩ | ⟨a, len', cap', zs, hcs, _⟩
  · exact ⟨none, 0, 0, by simpa using hcs⟩
  · exact ⟨some a, len', cap', by simpa using hcs⟩

theorem nil_of {H : Type} {enc : TypeId × Value → H} {W : World} {fuel : Nat} {a0 : Option Addr} {len cap : Nat} {x : DataW H × List MemPlace}
    (hf : DataW.trod enc Tryd.prog W 0 (fun _ => true) true fuel 22 [.slice a0 len cap] = some x) : a0 = none → cap = 0 := by
  rcases open_ints Tryd.underlying22 Tryd.underlying5 cells5 hf with ⟨hcs, _⟩ | ⟨a, len', cap', zs, hcs, _⟩
  · simp only [List.cons.injEq, Value.slice.injEq, and_true] at hcs
    exact fun _ => hcs.2.2
  · simp only [List.cons.injEq, Value.slice.injEq, and_true] at hcs
    intro h
    rw [h] at hcs
    cases hcs.1

/-- What is known of one list. -/
def Opened {H : Type} (W : World) (a0 : Option Addr) (len cap : Nat) (d : DataW H) : Prop :=
  (a0 = none → cap = 0) ∧ ∃ (b off : Nat) (Z : Nat → Int), (0 < len → a0 = some ⟨b, off, none⟩) ∧ (∀ i, i < len → W.cell? ⟨b, off + i, none⟩ = some (.int .u8 (Z i))) ∧ (∀ i, i < len → 0 ≤ Z i ∧ Z i ≤ 255) ∧ len ≤ cap ∧
      ((d = .nil ∧ cap = 0) ∨ ∃ e s, d = .slice e s ∧ e.length + s.length = cap)

theorem len_six {l : List Value} (h : l.length = 6) : ∃ c0 c1 c2 c3 c4 c5, l = [c0, c1, c2, c3, c4, c5] := by
  match l, h with
  | [c0, c1, c2, c3, c4, c5], _ => exact ⟨c0, c1, c2, c3, c4, c5, rfl⟩
theorem len_four {α : Type} {l : List α} (h : l.length = 4) : ∃ c0 c1 c2 c3, l = [c0, c1, c2, c3] := by
  match l, h with
  | [c0, c1, c2, c3], _ => exact ⟨c0, c1, c2, c3, rfl⟩
theorem len_three {α : Type} {l : List α} (h : l.length = 3) : ∃ c0 c1 c2, l = [c0, c1, c2] := by
  match l, h with
  | [c0, c1, c2], _ => exact ⟨c0, c1, c2, rfl⟩

theorem open_two {H : Type} {enc : TypeId × Value → H} {W : World} {base : Nat} {v : Value} {d : DataW H} {p : List MemPlace}
    (hv : Value.okWide Tryd.prog W .any base 31 v) (h : DataW.Trod enc Tryd.prog W 0 (fun _ => true) true 31 v d p) :
    ∃ (a b f t : Option Addr) (n ca m cb nf fc nt tc : Nat) (o : Bool) (s : ByteArray) (dA dB dF dT : DataW H),
      v = .agg #[.slice a n ca, .slice b m cb, .slice f nf fc, .slice t nt tc, .bool o, .string s] ∧
      d = .agg [dA, dB, .agg [dF, dT, .lit (.bool o)], .lit (.string s.data.toList)] ∧
      Opened W a n ca dA ∧ Opened W b m cb dB ∧ Opened W f nf fc dF ∧ Opened W t nt tc dT := by
  obtain ⟨cs, rfl, hsz⟩ := okWide_struct Tryd.underlying31 hv
  obtain ⟨fuel, hf⟩ := h
  rw [cells31] at hsz
  obtain ⟨c0, c1, c2, c3, c4, c5, hcs⟩ := len_six (l := cs.toList) (by simpa using hsz)
  have hcs' : cs = #[c0, c1, c2, c3, c4, c5] := by cases cs; simp_all
  subst hcs'
  simp only [Value.cells] at hf
  obtain ⟨xs, n0, _, hx, _, hlen, hfl⟩ := DataW.trod_struct Tryd.underlying31 hf
  obtain ⟨x0, x1, x2, x3, rfl⟩ := len_four (l := xs) hlen
  have f0 : DataW.trod enc Tryd.prog W 0 (fun _ => true) true n0 22 [c0] = some x0 := by simpa [cells22] using hfl 0 _ rfl
  have f1 : DataW.trod enc Tryd.prog W 0 (fun _ => true) true n0 22 [c1] = some x1 := by simpa [cells22] using hfl 1 _ rfl
  have f2 : DataW.trod enc Tryd.prog W 0 (fun _ => true) true n0 29 [c2, c3, c4] = some x2 := by simpa [cells29] using hfl 2 _ rfl
  have f3 : DataW.trod enc Tryd.prog W 0 (fun _ => true) true n0 9 [c5] = some x3 := by simpa [cells9] using hfl 3 _ rfl
  obtain ⟨ys, n1, _, hy, _, hlen2, hfl2⟩ := DataW.trod_struct Tryd.underlying29 f2
  obtain ⟨y0, y1, y2, rfl⟩ := len_three (l := ys) hlen2
  have g0 : DataW.trod enc Tryd.prog W 0 (fun _ => true) true n1 22 [c2] = some y0 := by simpa [cells22] using hfl2 0 _ rfl
  have g1 : DataW.trod enc Tryd.prog W 0 (fun _ => true) true n1 22 [c3] = some y1 := by simpa [cells22] using hfl2 1 _ rfl
  have g2 : DataW.trod enc Tryd.prog W 0 (fun _ => true) true n1 4 [c4] = some y2 := by simpa [cells4] using hfl2 2 _ rfl
  obtain ⟨a, n, ca, rfl⟩ := slice_of f0
  obtain ⟨b, m, cb, rfl⟩ := slice_of f1
  obtain ⟨f, nf, fc, rfl⟩ := slice_of g0
  obtain ⟨t, nt, tc, rfl⟩ := slice_of g1
  obtain ⟨o, ho, ho2⟩ := DataW.trod_bool Tryd.underlying4 g2
  obtain ⟨s, hs, hs2, _⟩ := DataW.trod_string Tryd.underlying9 f3
  simp only [List.cons.injEq, and_true] at ho hs
  subst ho hs
  simp only [Prod.mk.injEq] at hx
  obtain ⟨hd, _⟩ := hx
  refine ⟨a, b, f, t, n, ca, m, cb, nf, fc, nt, tc, o, s, x0.1, x1.1, y0.1, y1.1, rfl, ?_, ⟨nil_of f0, open_bytes (p := x0.2) f0⟩, ⟨nil_of f1, open_bytes (p := x1.2) f1⟩, ⟨nil_of g0, open_bytes (p := y0.2) g0⟩, ⟨nil_of g1, open_bytes (p := y1.2) g1⟩⟩
  rw [hd, hs2, hy, ho2]
  simp

theorem len_of {H : Type} {ts : List TypeId} {ds : List (DataW H)} (hsz : (DataW.weightsEach Tryd.prog ts ds).all (· ≤ reachBytes) = true) {j : Nat} {d : DataW H} {len cap : Nat} (ht : ts[j]? = some 22) (hd : ds[j]? = some d) (hl : len ≤ cap)
    (h : (d = .nil ∧ cap = 0) ∨ ∃ e s, d = .slice e s ∧ e.length + s.length = cap) : len ≤ 140737488351232 := by
  rcases h with ⟨_, h⟩ | ⟨e, s, rfl, h⟩
  · omega
  · have := sized_slice hsz ht hd Tryd.underlying22
    rw [bytes5, h] at this
    simp only [reachBytes] at this
    omega

theorem Opened.len {H : Type} {W : World} {a0 : Option Addr} {len cap : Nat} {d : DataW H} (h : Opened W a0 len cap d) {ts : List TypeId} {ds : List (DataW H)} (hsz : (DataW.weightsEach Tryd.prog ts ds).all (· ≤ reachBytes) = true) {j : Nat} (ht : ts[j]? = some 22) (hd : ds[j]? = some d) : len ≤ 140737488351232 := by
  obtain ⟨_, _, _, _, _, _, _, h1, h2⟩ := h
  exact len_of hsz ht hd h1 h2
theorem Opened.view {H : Type} {W : World} {a0 : Option Addr} {len cap : Nat} {d : DataW H} (h : Opened W a0 len cap d) (hl : len ≤ 281474976710656) : ∃ b off Z, View W a0 b off len Z ∧ len ≤ cap := by
  obtain ⟨_, b, off, Z, h1, h2, h3, h4, _⟩ := h
  exact ⟨b, off, Z, ⟨h1, h2, h3, hl⟩, h4⟩

theorem two_sized {H : Type} {dA dB dC dS : DataW H} (h : (DataW.weightsEach Tryd.prog [31] [.agg [dA, dB, dC, dS]]).all (· ≤ reachBytes) = true) :
    (DataW.weightsEach Tryd.prog [22, 22, 29, 9] [dA, dB, dC, dS]).all (· ≤ reachBytes) = true := by
  simpa [DataW.weightsEach, DataW.weights, Tryd.underlying31] using h

end Go.Proofs.YtglnjacaeefddaaDoor
