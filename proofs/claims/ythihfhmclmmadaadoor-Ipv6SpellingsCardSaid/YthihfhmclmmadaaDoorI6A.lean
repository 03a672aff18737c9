/-
  What is asked of package ipv6's functions, in plain words; awake of layer 11; equality of arrays.
-/
import Derived.Test.YthihfhmclmmadaaDoorI64
import Derived.Test.YthihfhmclmmadaaDoorYes
import Derived.Test.YthihfhmclmmadaaDoorPowT
import Derived.ChangeKeysEq
import Derived.Deep.Cut
namespace Go.Proofs.YthihfhmclmmadaaDoor
open Go.RowKit

def P6Par (F : FuncId) : Prop := ∀ (s : ByteArray) (w : World), s.size ≤ 1000000000 → Pow6 w → Calls Tryd.prog F #[.string s] w fun e w' => e = .returned (.tuple #[.agg (av (arr6 (parse6 (ls s)))), .bool (parse6 (ls s)).isSome]) ∧ Below w.heap.size w w'
def P6Fmt (F : FuncId) : Prop := ∀ (a : List Nat), a.length = 8 → G16 a → ∀ w : World, Pow6 w → Calls Tryd.prog F #[.agg (av a)] w fun e w' => e = .returned (.string (bs (fmt6 a))) ∧ Below w.heap.size w w'

theorem ex6_a : parse6 (ls ⟨#[50, 48, 48, 49, 58, 68, 66, 56, 58, 58, 49, 58, 48, 58, 48, 58, 49]⟩) = some [8193, 3512, 0, 0, 1, 0, 0, 1] := by decide +kernel
theorem ex6_b : parse6 (ls ⟨#[49, 58, 58, 50, 58, 58, 51]⟩) = none := by decide +kernel
theorem ex6_c : fmt6 [8193, 3512, 0, 0, 1, 0, 0, 1] = [50, 48, 48, 49, 58, 100, 98, 56, 58, 58, 49, 58, 48, 58, 48, 58, 49] := by decide +kernel
theorem ex6_d : fmt6 (zerosN 8) = [58, 58] := by decide +kernel
theorem ex6_g : G16 [8193, 3512, 0, 0, 1, 0, 0, 1] := by intro x hx; simp at hx; omega
theorem G16.zeros (n : Nat) : G16 (zerosN n) := by intro x hx; have := (List.mem_replicate.1 hx).2; omega

set_option maxRecDepth 20000 in
set_option maxHeartbeats 2000000 in
theorem awake11_any (hP : P6Par 8) (hF : P6Fmt 10) (w : World) (hpw : Pow6 w) :
    Calls Tryd.prog 7 #[] w (Yes w) := by
  have c1 := fun W hh => hP ⟨#[50, 48, 48, 49, 58, 68, 66, 56, 58, 58, 49, 58, 48, 58, 48, 58, 49]⟩ W (by decide) hh
  have c2 := fun W hh => hP ⟨#[49, 58, 58, 50, 58, 58, 51]⟩ W (by decide) hh
  have c3 := fun W hh => hF [8193, 3512, 0, 0, 1, 0, 0, 1] rfl ex6_g W hh
  have c4 := fun W hh => hF (zerosN 8) rfl (G16.zeros 8) W hh
  rw [ex6_a] at c1
  rw [ex6_b] at c2
  rw [ex6_c] at c3
  rw [ex6_d] at c4
  have e1 : av (arr6 (some [8193, 3512, 0, 0, 1, 0, 0, 1])) = #[.int .u16 8193, .int .u16 3512, .int .u16 0, .int .u16 0, .int .u16 1, .int .u16 0, .int .u16 0, .int .u16 1] := rfl
  have e2 : av (arr6 none) = #[.int .u16 0, .int .u16 0, .int .u16 0, .int .u16 0, .int .u16 0, .int .u16 0, .int .u16 0, .int .u16 0] := rfl
  have e4 : av (zerosN 8) = #[.int .u16 0, .int .u16 0, .int .u16 0, .int .u16 0, .int .u16 0, .int .u16 0, .int .u16 0, .int .u16 0] := rfl
  rw [e1, show (some [8193, 3512, 0, 0, 1, 0, 0, 1] : Option (List Nat)).isSome = true from rfl] at c1
  rw [e2, show (none : Option (List Nat)).isSome = false from rfl] at c2
  rw [show bs [50, 48, 48, 49, 58, 100, 98, 56, 58, 58, 49, 58, 48, 58, 48, 58, 49] = ⟨#[50, 48, 48, 49, 58, 100, 98, 56, 58, 58, 49, 58, 48, 58, 48, 58, 49]⟩ from rfl] at c3
  rw [e4, show bs [58, 58] = ⟨#[58, 58]⟩ from rfl] at c4
  clear e1 e2 e4
  go_enter Tryd.func7, Tryd.ntmps7
  go_wp2_with fail
  refine (c1 _ hpw).mono ?_
  rintro e w1 ⟨rfl, hb1⟩
  go_wp2_with fail
  obtain ⟨W1, hW1⟩ : ∃ x, x = w1.alloc (.cells #[.int .u16 8193, .int .u16 3512, .int .u16 0, .int .u16 0, .int .u16 1, .int .u16 0, .int .u16 0, .int .u16 1] 23) := ⟨_, rfl⟩
  have hb2 : Below w.heap.size w W1 := by rw [hW1]; exact hb1.alloc hb1.size _
  have hr1 : RowA W1 w1.heap.size [8193, 3512, 0, 0, 1, 0, 0, 1] := by rw [hW1]; exact row_new w1 _ _
  rw [← hW1]
  have hlt := hr1.lt
  clear hW1 hb1
  refine (c2 _ (pow6_below hpw hb2)).mono ?_
  rintro e w2 ⟨rfl, hb3⟩
  have hr2 : RowA w2 w1.heap.size [8193, 3512, 0, 0, 1, 0, 0, 1] := Row.below hr1 hb3 hlt
  replace hb3 := hb2.trans (hb3.mono hb2.size)
  clear hb2 hr1
  go_upto_region 3 with fail
  obtain ⟨W2, hW2⟩ : ∃ x, x = w2.alloc (.cells #[.int .u16 0, .int .u16 0, .int .u16 0, .int .u16 0, .int .u16 0, .int .u16 0, .int .u16 0, .int .u16 0] 23) := ⟨_, rfl⟩
  have hb4 : Below w.heap.size w W2 := by rw [hW2]; exact hb3.alloc hb3.size _
  have hr3 : RowA W2 w1.heap.size [8193, 3512, 0, 0, 1, 0, 0, 1] := by rw [hW2]; exact Row.grown0 hr2 (World.grownBy_alloc w2 _ _)
  rw [← hW2]
  have k0 := hr3.cell (k := 0) (by decide)
  have k7 := hr3.cell (k := 7) (by decide)
  simp only [List.getD_cons_zero, List.getD_cons_succ] at k0 k7
  clear hW2 hb3 hr2
  go_wp2_with (refine wpList_wanted (by exact rfl) ?_; refine wpList_load_arr _ rfl _ _ rfl w1.heap.size (by exact rfl) _ (av [8193, 3512, 0, 0, 1, 0, 0, 1]) hr3 8 _ tyA8 (sizeA _ rfl) ?_)
  refine (c3 _ (pow6_below hpw hb4)).mono ?_
  rintro e w5 ⟨rfl, hb5⟩
  replace hb5 := hb4.trans (hb5.mono hb4.size)
  go_wp2_with fail
  refine (c4 _ (pow6_below hpw hb5)).mono ?_
  rintro e w6 ⟨rfl, hb6⟩
  replace hb6 := hb5.trans (hb6.mono hb5.size)
  go_wp2
  go_ret
  exact ⟨rfl, hb6⟩

/-- Whether two arrays are equal. -/
theorem eqItems_av (W : World) (C D : List Nat) : ∀ is : List Nat, (∀ i ∈ is, i < C.length ∧ i < D.length) → (Op.eqItems 9999 22 1 (av C) (av D) is).run Tryd.prog W = .ok (is.all fun i => C.getD i 0 == D.getD i 0) W
  | [], _ => by simp [Op.eqItems]
  | i :: r, h => by
    have hi := h i (by simp)
    have ih := eqItems_av W C D r (fun j hj => h j (by simp [hj]))
    have e1 := av_get C i hi.1
    have e2 := av_get D i hi.2
    have hp : ∀ E : List Nat, i < E.length → (part 22 (av E) (i * 1)).run Tryd.prog W = .ok (.int .u16 ((E.getD i 0 : Nat) : Int)) W := by
      intro E hE
      have e := av_get E i hE
      obtain ⟨q, hq, _⟩ : ∃ q, Tryd.prog.info? 22 = some q ∧ q.size = 1 := by
        cases hq : Tryd.prog.info? 22 with
        | none => have := sizeU16; rw [hq] at this; cases this
        | some q => have := sizeU16; rw [hq] at this; exact ⟨q, rfl, by simpa using this⟩
      rename_i hs
      simp [part, run_underlying tyU16, isAgg, sizeOf, typeInfo, hq, hs, e, Result.andThen]
    have heq : (Op.equalIn 9999 22 (.int .u16 ((C.getD i 0 : Nat) : Int)) (.int .u16 ((D.getD i 0 : Nat) : Int))).run Tryd.prog W = .ok (((C.getD i 0 : Nat) : Int) == ((D.getD i 0 : Nat) : Int)) W :=
      run_equalIn_int W 9998 22 .u16 .u16 _ _ tyU16
    have hb : (((C.getD i 0 : Nat) : Int) == ((D.getD i 0 : Nat) : Int)) = (C.getD i 0 == D.getD i 0) := by
      apply Bool.eq_iff_iff.2
      simp only [beq_iff_eq]
      omega
    simp only [Op.eqItems, Sem.run_bind, hp C hi.1, hp D hi.2, Result.andThen_ok, heq, hb, List.all_cons]
    cases hc : (C.getD i 0 == D.getD i 0) with
    | true => simpa using ih
    | false => simp
theorem cellsU16 : Tryd.prog.cellsOf 22 = 1 := by kernel_rfl
theorem eq_av (C D : List Nat) (hC : C.length = 8) (hD : D.length = 8) : ∀ W, (binOp .eql 23 (.agg (av C)) (.agg (av D))).run Tryd.prog W = .ok (.bool (decide (C = D))) W := by
  intro W
  obtain ⟨q, hq⟩ : ∃ q, Tryd.prog.info? 22 = some q := by
    cases hq : Tryd.prog.info? 22 with
    | none => have := sizeU16; rw [hq] at this; cases this
    | some q => exact ⟨q, rfl⟩
  have h1 := run_equalIn_array (w := W) 9999 (av C) (av D) tyA8 hq
  rw [cellsU16, eqItems_av W C D (List.range 8) (fun i hi => by have := List.mem_range.1 hi; omega)] at h1
  have hall : ((List.range 8).all fun i => C.getD i 0 == D.getD i 0) = decide (C = D) := by
    apply Bool.eq_iff_iff.2
    rw [List.all_eq_true, decide_eq_true_iff]
    constructor
    · intro h
      apply List.ext_getElem (by omega)
      intro i h1 h2
      have := h i (List.mem_range.2 (by omega))
      simpa [List.getD_eq_getElem?_getD, List.getElem?_eq_getElem h1, List.getElem?_eq_getElem h2] using this
    · intro h i _
      rw [h]; simp
  rw [hall] at h1
  rw [run_eql_struct, h1]
  rfl

end Go.Proofs.YthihfhmclmmadaaDoor
