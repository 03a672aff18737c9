/-
  What is asked of package punycode's functions, in plain words.
-/
import Derived.Test.YtoieapdfpbcfpaaDoorPuQ
import Derived.Test.YtoieapdfpbcfpaaDoorApp
import Derived.Test.YtoieapdfpbcfpaaDoorYes
namespace Go.Proofs.YtoieapdfpbcfpaaDoor
open Go.RowKit

/-- Numbers that came in, or that the statement holds. -/
structure InZ (w : World) (B : Nat) (A : Option Addr) (len cap : Nat) (Z : List Int) : Prop where
  has : Has w B A len (Z.map (Value.int .i64))
  le : len ≤ cap
  room : cap ≤ maxLen
  nil : A = none → cap = 0
  wf : ∀ z ∈ Z, -9223372036854775808 ≤ z ∧ z ≤ 9223372036854775807
theorem InZ.len {w : World} {B len cap : Nat} {A : Option Addr} {Z : List Int} (h : InZ w B A len cap Z) : len = Z.length := by have := h.has.1; simpa using this.symm
theorem InZ.below {w w' : World} {B B' len cap : Nat} {A : Option Addr} {Z : List Int} (h : InZ w B A len cap Z) (hb : Below B' w w') (hB : B ≤ B') : InZ w' B A len cap Z := ⟨h.has.below' hb hB, h.le, h.room, h.nil, h.wf⟩
theorem InZ.more {w : World} {B B' len cap : Nat} {A : Option Addr} {Z : List Int} (h : InZ w B A len cap Z) (hB : B ≤ B') : InZ w B' A len cap Z := ⟨h.has.more hB, h.le, h.room, h.nil, h.wf⟩
def PuEnc (F : FuncId) : Prop := ∀ (Z : List Int) (A : Option Addr) (len cap B : Nat) (w : World), InZ w B A len cap Z → B ≤ w.heap.size → Z.length ≤ 1000000 →
  Calls Tryd.prog F #[.slice A len cap] w fun e w' => e = .returned (.tuple #[.string (bs (encL Z).2), .int .i64 ((encL Z).1 : Nat)]) ∧ Below w.heap.size w w'
def PuDec (F : FuncId) : Prop := ∀ (s : ByteArray) (w : World), s.size ≤ 1000000000 → Calls Tryd.prog F #[.string s] w (DecPost (ls s) w)

theorem ex_dec : decL (ls ⟨#[98, 99, 104, 101, 114, 45, 107, 118, 97]⟩) = .ok [98, 252, 99, 104, 101, 114] := by kernel_rfl
theorem ex_hy : decL (ls ⟨#[45]⟩) = .error 4 := by kernel_rfl
theorem ex_ds : encDs [98, 252, 99, 104, 101, 114] = [745] := by kernel_rfl
theorem ex_gen : genV 745 0 72 = [10, 21, 0] := by
  rw [genV_more (by decide), show (745 - thr 0 72) / (36 - thr 0 72) = 21 from rfl, genV_more (by decide), show (21 - thr (0 + 1) 72) / (36 - thr (0 + 1) 72) = 0 from rfl, genV_one (by decide)]
  rfl
theorem ex_enc : encL [98, 252, 99, 104, 101, 114] = (0, [98, 99, 104, 101, 114, 45, 107, 118, 97]) := by
  have h1 : encL [98, 252, 99, 104, 101, 114] = (0, encB [98, 252, 99, 104, 101, 114]) := by kernel_rfl
  have h2 : encB [98, 252, 99, 104, 101, 114] = [98, 99, 104, 101, 114] ++ ([45] ++ digsOf [745] 72 5 true) := by
    unfold encB
    rw [ex_ds]
    rfl
  rw [h1, h2, digsOf, ex_gen, digsOf]
  rfl

/-- What a row of the call's own says of its slice. -/
theorem inZ_own {w : World} {base n : Nat} {v : Value} {Z : List Int} (h : w.ownsRow base 3 1 v n (Z.map (Value.int .i64))) (hw : ∀ z ∈ Z, -9223372036854775808 ≤ z ∧ z ≤ 9223372036854775807) :
    ∃ A c, v = .slice A n c ∧ InZ w w.heap.size A n c Z := by
  obtain ⟨A, c, rfl, hh, hle⟩ := Has.of_own h
  refine ⟨A, c, rfl, hh, hle, ?_, of_own_none h, hw⟩
  rcases h.2 with ⟨e, _⟩ | ⟨g, cap, cur, e, _, _, _, hm, _⟩
  · injection e with _ _ e3
    subst e3
    exact Nat.zero_le _
  · injection e with _ _ e3
    subst e3
    exact hm
theorem pt_range {p : Nat} (h : p ≤ 1114111) : -9223372036854775808 ≤ (p : Int) ∧ (p : Int) ≤ 9223372036854775807 := by omega
theorem nvI_zv (P : List Nat) : P.map nvI = (P.map (fun n : Nat => (n : Int))).map (Value.int .i64) := by rw [List.map_map]; rfl

end Go.Proofs.YtoieapdfpbcfpaaDoor
