/-
  Layer 11's openers: eight groups, two numbers (written by tools/gen-I6O.py).
-/
import Derived.Test.YthihfhmclmmadaaDoorI6B
import Derived.OpenShut
import Derived.ChangeSame
namespace Go.Proofs.YthihfhmclmmadaaDoor
open Go.RowKit

theorem ty6Int : Tryd.prog.underlying 3 = some (.int .i64) := by kernel_rfl
theorem ty6U16 : Tryd.prog.underlying 22 = some (.int .u16) := by kernel_rfl
theorem wf6_i64 {v : Int} (h : (Lit.int .i64 v).wf = true) : -9223372036854775808 ≤ v ∧ v ≤ 9223372036854775807 := by
  have h1 : IntKind.i64.min = -9223372036854775808 := rfl
  have h2 : IntKind.i64.max = 9223372036854775807 := rfl
  simp [Lit.wf, h1, h2] at h
  exact h
theorem wf6_u16 {v : Int} (h : (Lit.int .u16 v).wf = true) : ∃ n : Nat, v = (n : Int) ∧ n < 65536 := by
  have h1 : IntKind.u16.min = 0 := rfl
  have h2 : IntKind.u16.max = 65535 := rfl
  simp [Lit.wf, h1, h2] at h
  exact ⟨v.toNat, by omega, by omega⟩
open Go.ChangeShapes Go.WideShapes in
set_option maxRecDepth 100000 in
theorem open_a8 {H : Type} {enc : TypeId × Value → H} {W : World} {base : Nat} {held : Bool} {v : Value} {d : DataW H} {p : List MemPlace} (hval : Value.okWide Tryd.prog W .any base 23 v) (h : DataW.Trod enc Tryd.prog W 0 (fun _ => true) held 23 v d p) :
    ∃ a : List Nat, v = .agg (av a) ∧ a.length = 8 ∧ G16 a := by
  obtain ⟨cs, rfl, hsz, _⟩ : ∃ cs, v = .agg cs ∧ cs.size = Tryd.prog.cellsOf 23 ∧ Row.okWide Tryd.prog W .any base 23 cs := by
    unfold Value.okWide at hval
    rw [Tryd.underlying23] at hval
    exact hval
  have hcN : Tryd.prog.cellsOf 23 = 8 := by kernel_rfl
  have hc1 : Tryd.prog.cellsOf 22 = 1 := by kernel_rfl
  rw [hcN] at hsz
  obtain ⟨l⟩ := cs
  obtain ⟨c0, c1, c2, c3, c4, c5, c6, c7, rfl⟩ : ∃ c0 c1 c2 c3 c4 c5 c6 c7, l = [c0, c1, c2, c3, c4, c5, c6, c7] := by
    match l, hsz with
    | [c0, c1, c2, c3, c4, c5, c6, c7], _ => exact ⟨c0, c1, c2, c3, c4, c5, c6, c7, rfl⟩
  obtain ⟨fuel, hf⟩ := h
  match fuel with
  | 0 => simp [DataW.trod] at hf
  | n + 1 =>
    simp only [Value.cells] at hf
    unfold DataW.trod at hf
    rw [Tryd.underlying23] at hf
    simp [show List.range 8 = [0, 1, 2, 3, 4, 5, 6, 7] from rfl, hc1] at hf
    cases h0 : DataW.trod enc Tryd.prog W 0 (fun _ => true) held n 22 [c0] with
    | none => simp [h0] at hf
    | some y0 =>
      cases h1 : DataW.trod enc Tryd.prog W 0 (fun _ => true) held n 22 [c1] with
      | none => simp [h0, h1] at hf
      | some y1 =>
        cases h2 : DataW.trod enc Tryd.prog W 0 (fun _ => true) held n 22 [c2] with
        | none => simp [h0, h1, h2] at hf
        | some y2 =>
          cases h3 : DataW.trod enc Tryd.prog W 0 (fun _ => true) held n 22 [c3] with
          | none => simp [h0, h1, h2, h3] at hf
          | some y3 =>
            cases h4 : DataW.trod enc Tryd.prog W 0 (fun _ => true) held n 22 [c4] with
            | none => simp [h0, h1, h2, h3, h4] at hf
            | some y4 =>
              cases h5 : DataW.trod enc Tryd.prog W 0 (fun _ => true) held n 22 [c5] with
              | none => simp [h0, h1, h2, h3, h4, h5] at hf
              | some y5 =>
                cases h6 : DataW.trod enc Tryd.prog W 0 (fun _ => true) held n 22 [c6] with
                | none => simp [h0, h1, h2, h3, h4, h5, h6] at hf
                | some y6 =>
                  cases h7 : DataW.trod enc Tryd.prog W 0 (fun _ => true) held n 22 [c7] with
                  | none => simp [h0, h1, h2, h3, h4, h5, h6, h7] at hf
                  | some y7 =>
                    obtain ⟨x0, e0, _, w0⟩ := DataW.trod_int ty6U16 h0
                    obtain ⟨x1, e1, _, w1⟩ := DataW.trod_int ty6U16 h1
                    obtain ⟨x2, e2, _, w2⟩ := DataW.trod_int ty6U16 h2
                    obtain ⟨x3, e3, _, w3⟩ := DataW.trod_int ty6U16 h3
                    obtain ⟨x4, e4, _, w4⟩ := DataW.trod_int ty6U16 h4
                    obtain ⟨x5, e5, _, w5⟩ := DataW.trod_int ty6U16 h5
                    obtain ⟨x6, e6, _, w6⟩ := DataW.trod_int ty6U16 h6
                    obtain ⟨x7, e7, _, w7⟩ := DataW.trod_int ty6U16 h7
                    simp at e0 e1 e2 e3 e4 e5 e6 e7
                    subst e0 e1 e2 e3 e4 e5 e6 e7
                    obtain ⟨n0, rfl, b0⟩ := wf6_u16 w0
                    obtain ⟨n1, rfl, b1⟩ := wf6_u16 w1
                    obtain ⟨n2, rfl, b2⟩ := wf6_u16 w2
                    obtain ⟨n3, rfl, b3⟩ := wf6_u16 w3
                    obtain ⟨n4, rfl, b4⟩ := wf6_u16 w4
                    obtain ⟨n5, rfl, b5⟩ := wf6_u16 w5
                    obtain ⟨n6, rfl, b6⟩ := wf6_u16 w6
                    obtain ⟨n7, rfl, b7⟩ := wf6_u16 w7
                    refine ⟨[n0, n1, n2, n3, n4, n5, n6, n7], rfl, rfl, ?_⟩
                    intro x hx
                    simp only [List.mem_cons, List.not_mem_nil, or_false] at hx
                    rcases hx with rfl | rfl | rfl | rfl | rfl | rfl | rfl | rfl <;> assumption
open Go.ChangeShapes Go.WideShapes in
set_option maxRecDepth 100000 in
theorem open_arr2 {H : Type} {enc : TypeId × Value → H} {W : World} {base : Nat} {held : Bool} {v : Value} {d : DataW H} {p : List MemPlace} (hval : Value.okWide Tryd.prog W .any base 30 v) (h : DataW.Trod enc Tryd.prog W 0 (fun _ => true) held 30 v d p) :
    ∃ z0 z1 : Int, v = .agg #[.int .i64 z0, .int .i64 z1] ∧ (-9223372036854775808 ≤ z0 ∧ z0 ≤ 9223372036854775807) ∧ (-9223372036854775808 ≤ z1 ∧ z1 ≤ 9223372036854775807) := by
  obtain ⟨cs, rfl, hsz, _⟩ : ∃ cs, v = .agg cs ∧ cs.size = Tryd.prog.cellsOf 30 ∧ Row.okWide Tryd.prog W .any base 30 cs := by
    unfold Value.okWide at hval
    rw [Tryd.underlying30] at hval
    exact hval
  have hcN : Tryd.prog.cellsOf 30 = 2 := by kernel_rfl
  have hc1 : Tryd.prog.cellsOf 3 = 1 := by kernel_rfl
  rw [hcN] at hsz
  obtain ⟨l⟩ := cs
  obtain ⟨c0, c1, rfl⟩ : ∃ c0 c1, l = [c0, c1] := by
    match l, hsz with
    | [c0, c1], _ => exact ⟨c0, c1, rfl⟩
  obtain ⟨fuel, hf⟩ := h
  match fuel with
  | 0 => simp [DataW.trod] at hf
  | n + 1 =>
    simp only [Value.cells] at hf
    unfold DataW.trod at hf
    rw [Tryd.underlying30] at hf
    simp [show List.range 2 = [0, 1] from rfl, hc1] at hf
    cases h0 : DataW.trod enc Tryd.prog W 0 (fun _ => true) held n 3 [c0] with
    | none => simp [h0] at hf
    | some y0 =>
      cases h1 : DataW.trod enc Tryd.prog W 0 (fun _ => true) held n 3 [c1] with
      | none => simp [h0, h1] at hf
      | some y1 =>
        obtain ⟨x0, e0, _, w0⟩ := DataW.trod_int ty6Int h0
        obtain ⟨x1, e1, _, w1⟩ := DataW.trod_int ty6Int h1
        simp at e0 e1
        subst e0 e1
        exact ⟨x0, x1, rfl, wf6_i64 w0, wf6_i64 w1⟩

end Go.Proofs.YthihfhmclmmadaaDoor
