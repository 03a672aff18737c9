/-
  Openers of layer 9: a superblock that came in, an array of two numbers that came in.
-/
import Derived.Test.YtdahnkampjkelaaSupP
import Derived.Test.YtdahnkampjkelaaCrc1
import Derived.Test.YtdahnkampjkelaaKeepE
import Derived.Test.YtdahnkampjkelaaSup1
import Derived.Lib.SmallJoins
import Derived.OpenShut
import Derived.Deep.Slices
import Derived.ChangeSame
namespace Go.Proofs.Ytdahnkampjkelaa
open Go.RowKit
open Go.Joins Go.ChangeShapes Go.WideShapes Go.Deep

theorem tyInt9 : Try.prog.underlying 3 = some (.int .i64) := by kernel_rfl
theorem tyU64 : Try.prog.underlying 22 = some (.int .u64) := by kernel_rfl
theorem tyU32 : Try.prog.underlying 23 = some (.int .u32) := by kernel_rfl
set_option maxRecDepth 100000 in
/-- A superblock that came in. -/
theorem open_sup {H : Type} {enc : TypeId × Value → H} {W : World} {base : Nat} {held : Bool} {v : Value} {d : DataW H} {p : List MemPlace} (hval : Value.okWide Try.prog W .any base 25 v) (h : DataW.Trod enc Try.prog W 0 (fun _ => true) held 25 v d p) :
    ∃ Z : Sup, v = Z.val ∧ Z.g < 18446744073709551616 ∧ (-9223372036854775808 ≤ Z.a ∧ Z.a ≤ 9223372036854775807) ∧ (-9223372036854775808 ≤ Z.n ∧ Z.n ≤ 9223372036854775807) := by
  obtain ⟨cs, rfl, hsz⟩ := Go.WideShapes.okWide_struct Try.underlying25 hval
  have hc5 : Try.prog.cellsOf 25 = 5 := by kernel_rfl
  have hci : Try.prog.cellsOf 3 = 1 := by kernel_rfl
  have hc64 : Try.prog.cellsOf 22 = 1 := by kernel_rfl
  have hc32 : Try.prog.cellsOf 23 = 1 := by kernel_rfl
  rw [hc5] at hsz
  obtain ⟨l⟩ := cs
  match l, hsz with
  | [c0, c1, c2, c3, c4], _ =>
    obtain ⟨fuel, hf⟩ := h
    obtain ⟨ys, n', _, _, _, hyl, hg⟩ := DataW.trod_struct Try.underlying25 hf
    match ys, hyl with
    | [y0, y1, y2, y3, y4], _ =>
      have s0 : DataW.trod enc Try.prog W 0 (fun _ => true) held n' 22 [c0] = some y0 := by
        have := hg 0 _ rfl
        change DataW.trod _ _ _ _ _ _ _ 22 (List.take (Try.prog.cellsOf 22) _) = _ at this
        rw [hc64] at this
        exact this
      have s1 : DataW.trod enc Try.prog W 0 (fun _ => true) held n' 3 [c1] = some y1 := by
        have := hg 1 _ rfl
        change DataW.trod _ _ _ _ _ _ _ 3 (List.take (Try.prog.cellsOf 3) _) = _ at this
        rw [hci] at this
        exact this
      have s2 : DataW.trod enc Try.prog W 0 (fun _ => true) held n' 23 [c2] = some y2 := by
        have := hg 2 _ rfl
        change DataW.trod _ _ _ _ _ _ _ 23 (List.take (Try.prog.cellsOf 23) _) = _ at this
        rw [hc32] at this
        exact this
      have s3 : DataW.trod enc Try.prog W 0 (fun _ => true) held n' 3 [c3] = some y3 := by
        have := hg 3 _ rfl
        change DataW.trod _ _ _ _ _ _ _ 3 (List.take (Try.prog.cellsOf 3) _) = _ at this
        rw [hci] at this
        exact this
      have s4 : DataW.trod enc Try.prog W 0 (fun _ => true) held n' 23 [c4] = some y4 := by
        have := hg 4 _ rfl
        change DataW.trod _ _ _ _ _ _ _ 23 (List.take (Try.prog.cellsOf 23) _) = _ at this
        rw [hc32] at this
        exact this
      obtain ⟨x0, e0, _, w0⟩ := DataW.trod_int tyU64 s0
      obtain ⟨x1, e1, _, w1⟩ := DataW.trod_int tyInt9 s1
      obtain ⟨x2, e2, _, w2⟩ := DataW.trod_int tyU32 s2
      obtain ⟨x3, e3, _, w3⟩ := DataW.trod_int tyInt9 s3
      obtain ⟨x4, e4, _, w4⟩ := DataW.trod_int tyU32 s4
      simp at e0 e1 e2 e3 e4
      subst e0 e1 e2 e3 e4
      have b0 := bounds_u64 w0
      have b2 := bounds_u32 w2
      have b4 := bounds_u32 w4
      obtain ⟨z2, rfl⟩ := nv_of x2 (by omega) (by omega)
      obtain ⟨z4, rfl⟩ := nv_of x4 (by omega) (by omega)
      obtain ⟨z0, rfl⟩ := Int.eq_ofNat_of_zero_le (show 0 ≤ x0 by omega)
      exact ⟨⟨z0, x1, z2, x3, z4⟩, rfl, by show z0 < _; omega, bounds_i64 w1, bounds_i64 w3⟩

/-- A slice of bytes that came in. -/
theorem opn8_sup {H : Type} {enc : TypeId × Value → H} {w : World} {held : Bool} {fuel : Nat} {A : Option Addr} {n c : Nat} {x : DataW H × List MemPlace} (h : DataW.trod enc Try.prog w 0 (fun _ => true) held fuel 26 [.slice A n c] = some x) : ∃ l, Arg8 w A n c l := by
  rcases open_ints tyBs tyU8 (by kernel_rfl) h with ⟨hcs, _⟩ | ⟨y, l, c', zs, hcs, _, hl, hm, hz, _, hcell, hwz⟩
  · simp at hcs
    obtain ⟨rfl, rfl, rfl⟩ := hcs
    exact arg8_of (zs := []) (.inl ⟨rfl, rfl, rfl, rfl⟩)
  · simp at hcs
    obtain ⟨rfl, rfl, rfl⟩ := hcs
    exact arg8_of (zs := zs) (.inr ⟨_, rfl, hl, hm, by simpa using hz, hcell, hwz⟩)
theorem pair_of {α : Type} (l : List α) (h : l.length = 2) : ∃ a b, l = [a, b] := by
  match l, h with
  | [a, b], _ => exact ⟨a, b, rfl⟩
set_option maxRecDepth 100000 in
/-- Two numbers of 32 bits that came in as an array. -/
theorem open_two {H : Type} {enc : TypeId × Value → H} {W : World} {base : Nat} {held : Bool} {v : Value} {d : DataW H} {p : List MemPlace} (hval : Value.okWide Try.prog W .any base 41 v) (h : DataW.Trod enc Try.prog W 0 (fun _ => true) held 41 v d p) :
    ∃ x y : W32, v = .agg #[.int .u32 (nv x), .int .u32 (nv y)] := by
  obtain ⟨cs, rfl, hsz, _⟩ : ∃ cs, v = .agg cs ∧ cs.size = Try.prog.cellsOf 41 ∧ Row.okWide Try.prog W .any base 41 cs := by
    unfold Value.okWide at hval
    rw [Try.underlying41] at hval
    exact hval
  have hc2 : Try.prog.cellsOf 41 = 2 := by kernel_rfl
  have hc1 : Try.prog.cellsOf 23 = 1 := by kernel_rfl
  rw [hc2] at hsz
  obtain ⟨l⟩ := cs
  obtain ⟨c0, c1, rfl⟩ := pair_of l hsz
  obtain ⟨fuel, hf⟩ := h
  match fuel with
  | 0 => simp [DataW.trod] at hf
  | n + 1 =>
    simp only [Value.cells] at hf
    unfold DataW.trod at hf
    rw [Try.underlying41] at hf
    simp [show List.range 2 = [0, 1] from rfl, hc1] at hf
    cases h0 : DataW.trod enc Try.prog W 0 (fun _ => true) held n 23 [c0] with
    | none => simp [h0] at hf
    | some y0 =>
      cases h1 : DataW.trod enc Try.prog W 0 (fun _ => true) held n 23 [c1] with
      | none => simp [h0, h1] at hf
      | some y1 =>
        obtain ⟨x0, e0, _, w0⟩ := DataW.trod_int tyU32 h0
        obtain ⟨x1, e1, _, w1⟩ := DataW.trod_int tyU32 h1
        simp at e0 e1
        subst e0 e1
        have b0 := bounds_u32 w0
        have b1 := bounds_u32 w1
        obtain ⟨z0, rfl⟩ := nv_of x0 (by omega) (by omega)
        obtain ⟨z1, rfl⟩ := nv_of x1 (by omega) (by omega)
        exact ⟨z0, z1, rfl⟩

end Go.Proofs.Ytdahnkampjkelaa
