/-
  A policy that came in by value.
-/
import Derived.Test.YtpopkeidpohdiaaDoorStV
namespace Go.Proofs.YtpopkeidpohdiaaDoor
open Go.RowKit

theorem tyIntP : Tryd.prog.underlying 3 = some (.int .i64) := by kernel_rfl
open Go.ChangeShapes Go.WideShapes Go.ChangeMaps in
set_option maxRecDepth 100000 in
theorem open_pol {H : Type} {enc : TypeId × Value → H} {W : World} {base : Nat} {held : Bool} {v : Value} {d : DataW H} {p : List MemPlace} (hval : Value.okWide Tryd.prog W .any base 23 v) (h : DataW.Trod enc Tryd.prog W 0 (fun _ => true) held 23 v d p) :
    ∃ Z : Pv, v = .agg #[.int .i64 Z.age, .bool Z.sub] ∧ (Lit.int .i64 Z.age).wf = true := by
  obtain ⟨cs, rfl, hsz⟩ := Go.WideShapes.okWide_struct Tryd.underlying23 hval
  have hc2 : Tryd.prog.cellsOf 23 = 2 := by kernel_rfl
  have hci : Tryd.prog.cellsOf 3 = 1 := by kernel_rfl
  have hcb : Tryd.prog.cellsOf 4 = 1 := by kernel_rfl
  rw [hc2] at hsz
  obtain ⟨l⟩ := cs
  obtain ⟨u0, u1, rfl⟩ : ∃ u0 u1, l = [u0, u1] := by
    match l, hsz with
    | [u0, u1], _ => exact ⟨u0, u1, rfl⟩
  obtain ⟨fuel, hf⟩ := h
  obtain ⟨ys, n', _, _, _, hyl, hg⟩ := DataW.trod_struct Tryd.underlying23 hf
  obtain ⟨y0, y1, rfl⟩ : ∃ y0 y1, ys = [y0, y1] := by
    match ys, hyl with
    | [y0, y1], _ => exact ⟨y0, y1, rfl⟩
  have s0 : DataW.trod enc Tryd.prog W 0 (fun _ => true) held n' 3 [u0] = some y0 := by
    have := hg 0 _ rfl
    change DataW.trod _ _ _ _ _ _ _ 3 (List.take (Tryd.prog.cellsOf 3) _) = _ at this
    rw [hci] at this
    exact this
  have s1 : DataW.trod enc Tryd.prog W 0 (fun _ => true) held n' 4 [u1] = some y1 := by
    have := hg 1 _ rfl
    change DataW.trod _ _ _ _ _ _ _ 4 (List.take (Tryd.prog.cellsOf 4) _) = _ at this
    rw [hcb] at this
    exact this
  obtain ⟨x0, e0, _, w0⟩ := DataW.trod_int tyIntP s0
  obtain ⟨x1, e1, _⟩ := DataW.trod_bool tyBool s1
  simp at e0 e1
  subst e0 e1
  exact ⟨⟨x0, x1⟩, rfl, w0⟩

end Go.Proofs.YtpopkeidpohdiaaDoor
