/-
  The examples of the statements of layer 20, and what is small.
-/
import Derived.Test.YtgilpheclmmolaaCsW
import Derived.Test.YtgilpheclmmolaaStrO
namespace Go.Proofs.Ytgilpheclmmolaa
open Go.RowKit

/-- A variable that holds what header fields say. -/
structure VarC (w : World) (p : Nat) (c : Cv) (A : Option Addr) (k : Nat) (W : World) : Prop where
  row : RowCv W p c.up c.bl A c.names.length k
  has : Has W W.heap.size A c.names.length (wv c.names)
  bel : Below w.heap.size w W
  hp : w.heap.size ≤ p
section
variable {w w1 W W1 W2 : World} {p g k : Nat} {c : Cv} {A : Option Addr}
theorem VarC.lt (h : VarC w p c A k W) : p < W.heap.size := (Array.getElem?_eq_some_iff.1 (show W.heap[p]? = _ from h.row)).1
theorem VarC.boxed (hh : Has w1 w1.heap.size A c.names.length (wv c.names)) (hb : Below w.heap.size w w1) (hp : w1.heap.size ≤ p) (hG1 : w1.grownBy W1 none) (h1 : RowCv W1 p false false none 0 0) (hr : RowCv W2 p c.up c.bl A c.names.length k) (hG2 : W1.grownBy W2 (some p)) : VarC w p c A k W2 := by
  have g1 : Below w1.heap.size w1 W1 := (Below.refl _ w1).grown hG1 (Nat.le_refl _) (fun j e => by cases e)
  have hz := hb.size
  refine ⟨hr, (has_cv ((hh.below g1).more g1.size) h1 hG2 (Nat.le_refl _)).more hG2.size, (hb.trans (g1.mono hz)).grown hG2 (by have := g1.size; omega) (fun j e => by cases e; omega), by omega⟩
theorem VarC.call (h : VarC w p c A k W) (hb : Below W.heap.size W W1) : VarC w p c A k W1 :=
  ⟨(hb.block _ h.lt).trans h.row, (h.has.below hb).more hb.size, h.bel.trans (hb.mono h.bel.size), h.hp⟩
theorem VarC.pass (h : VarC w p c A k W) (hg : W.heap.size ≤ g) (hG1 : W.grownBy W1 none) {W2 : World} (hG2 : W1.grownBy W2 (some g)) : VarC w p c A k W2 := by
  have hb : Below W.heap.size W W2 := ((Below.refl _ W).grown hG1 (Nat.le_refl _) (fun j e => by cases e)).grown hG2 hG1.size (fun j e => by cases e; exact hg)
  exact h.call hb
end
theorem has_pass {w1 W1 W2 : World} {B n g : Nat} {A : Option Addr} {xs : List Value} (hh : Has w1 B A n xs) (hB : B ≤ w1.heap.size) (hg : w1.heap.size ≤ g) (hG1 : w1.grownBy W1 none) (hG2 : W1.grownBy W2 (some g)) : Has W2 B A n xs :=
  hh.below' (((Below.refl _ w1).grown hG1 (Nat.le_refl _) (fun j e => by cases e)).grown hG2 hG1.size (fun j e => by cases e; exact hg)) hB

theorem par_known {f : Nat} (hP : ParC f) (s : ByteArray) (hs : s.size ≤ maxLen) {R : Cv × Int} (h : mergeC [ls s] = R) (W : World) : Calls Try.prog f #[.string s] W (CspPost R W) := by
  rw [← h]
  exact hP s W hs
theorem ex20a : mergeC [ls ⟨#[100, 101, 102, 97, 117, 108, 116, 45, 115, 114, 99, 32, 39, 115, 101, 108, 102, 39, 59, 32, 85, 112, 103, 114, 97, 100, 101, 45, 73, 110, 115, 101, 99, 117, 114, 101, 45, 82, 101, 113, 117, 101, 115, 116, 115, 44, 32, 105, 109, 103, 45, 115, 114, 99, 32, 42]⟩] =
    (⟨[[100, 101, 102, 97, 117, 108, 116, 45, 115, 114, 99], nmU, [105, 109, 103, 45, 115, 114, 99]], true, false⟩, 0) := by decide +kernel
theorem ex20b : mergeC [[97], [98, 108, 111, 99, 107, 45, 97, 108, 108, 45, 109, 105, 120, 101, 100, 45, 99, 111, 110, 116, 101, 110, 116, 59, 32, 97]] = (⟨[[97], nmB], false, true⟩, 0) := by decide +kernel
theorem has_two (w : World) (x y : List UInt8) : Has (w.alloc (.cells #[.string (bs x), .string (bs y)] 9)) (w.alloc (.cells #[.string (bs x), .string (bs y)] 9)).heap.size (some ⟨w.heap.size, 0, none⟩) 2 (wv [x, y]) :=
  (Has.two w (.string (bs x)) (.string (bs y)) 9).more (by simp)

set_option maxRecDepth 20000 in
set_option maxHeartbeats 4000000 in
theorem awake20_any (w : World) : Calls Try.prog 8 #[] w (Yes w) := by
  have c1 := par_known pPar _ (by decide) ex20a
  have c2 : ∀ (W : World), Calls Try.prog 11 #[.slice (some ⟨W.heap.size, 0, none⟩) 2 2] (W.alloc (.cells #[.string ⟨#[97]⟩, .string ⟨#[98, 108, 111, 99, 107, 45, 97, 108, 108, 45, 109, 105, 120, 101, 100, 45, 99, 111, 110, 116, 101, 110, 116, 59, 32, 97]⟩] 9)) (CspPost (⟨[[97], nmB], false, true⟩, 0) (W.alloc (.cells #[.string ⟨#[97]⟩, .string ⟨#[98, 108, 111, 99, 107, 45, 97, 108, 108, 45, 109, 105, 120, 101, 100, 45, 99, 111, 110, 116, 101, 110, 116, 59, 32, 97]⟩] 9)) ) := fun W => by
    have := pMer (some ⟨W.heap.size, 0, none⟩) 2 _ _ (by simp) (by simp [maxLen]) (has_two W [97] [98, 108, 111, 99, 107, 45, 97, 108, 108, 45, 109, 105, 120, 101, 100, 45, 99, 111, 110, 116, 101, 110, 116, 59, 32, 97])
    rw [ex20b] at this
    exact this
  go_enter Try.func8, Try.ntmps8
  go_wp2_with fail
  refine (c1 _).mono ?_
  rintro e w1 ⟨A1, k1, rfl, hk1, hh1, hb1⟩
  go_wp2_with (first
    | (refine wpList_alloc_arr _ rfl 1 rfl _ rfl #[.bool false, .bool false, .slice none 0 0] zeroCv ?_; intro W2 p1 hp1 hq1 hR1 hG1)
    | (refine wpList_store_cv rfl rfl _ _ rfl p1 (by exact rfl) _ _ _ _ _ (by exact rfl) _ _ _ _ _ hR1 ?_; intro W3 hr1 hG3))
  have hE := VarC.boxed (c := ⟨[[100, 101, 102, 97, 117, 108, 116, 45, 115, 114, 99], nmU, [105, 109, 103, 45, 115, 114, 99]], true, false⟩) hh1 hb1 hp1 hG1 hR1 hr1 hG3
  clear hk1 hh1 hb1 hp1 hq1 hR1 hG1 hr1 hG3
  have hE' := hE.call ((Below.refl W3.heap.size W3).alloc (Nat.le_refl _) (.cells #[.string ⟨#[97]⟩, .string ⟨#[98, 108, 111, 99, 107, 45, 97, 108, 108, 45, 109, 105, 120, 101, 100, 45, 99, 111, 110, 116, 101, 110, 116, 59, 32, 97]⟩] 9))
  refine (c2 W3).mono ?_
  rintro e w4 ⟨A2, k2, rfl, hk2, hh2, hb2⟩
  have hE4 := hE'.call hb2
  clear hE hE' hb2 c1 c2
  go_wp2_with (first
    | (refine wpList_alloc_arr _ rfl 3 rfl _ rfl #[.bool false, .bool false, .slice none 0 0] zeroCv ?_; intro W5 p3 hp3 hq3 hR3 hG3)
    | (refine wpList_store_cv rfl rfl _ _ rfl p3 (by exact rfl) _ _ _ _ _ (by exact rfl) _ _ _ _ _ hR3 ?_; intro W6 hr3 hG6
       have hF := VarC.boxed (c := ⟨[[97], nmB], false, true⟩) hh2 hE4.bel hp3 hG3 hR3 hr3 hG6
       have hE6 := hE4.pass hp3 hG3 hG6
       obtain ⟨x0, x1, x2⟩ := RowCv.cells hE6.row
       obtain ⟨y0, y1, y2⟩ := RowCv.cells hF.row
       obtain ⟨b, off, rfl, hc⟩ := str_cell hE6.has 2 (by decide)
       replace hc : W6.cell? ⟨b, off + 2, none⟩ = some (.string ⟨#[105, 109, 103, 45, 115, 114, 99]⟩) := hc
       have hbel := hE6.bel
       clear hF hE6 hE4 hh2 hk2 hp3 hq3 hR3 hG3 hr3 hG6))
  go_ret
  exact ⟨rfl, hbel⟩

/-- What is small. -/
def smB (vs : List (List UInt8)) : Bool := decide (vs.length ≤ 12) && shortB 4500 (vs.map bs)
theorem small20_any (A : Option Addr) (cap : Nat) (vs : List (List UInt8)) (w : World) (_hl : vs.length ≤ maxLen) (hH : Has w w.heap.size A vs.length (wv vs)) :
    Calls Try.prog 7 #[.slice A vs.length cap] w fun e w' => e = .returned (.bool (smB vs)) ∧ w = w' := by
  have hm : wv vs = (vs.map bs).map Value.string := by unfold wv; rw [List.map_map]; rfl
  rw [hm] at hH
  unfold smB
  by_cases h12 : vs.length ≤ 12
  · have cs := short_any 4500 A vs.length cap (vs.map bs) w.heap.size w hH (by omega)
    have hd : decide ((vs.length : Int) ≤ 12) = true := decide_eq_true (by omega)
    rw [decide_eq_true h12, Bool.true_and]
    generalize shortB 4500 (vs.map bs) = q at *
    clear hH hm h12
    go_enter Try.func7, Try.ntmps7
    go_wp2_with fail
    refine cs.mono ?_
    rintro e w1 ⟨rfl, rfl⟩
    go_wp2
    go_ret
    exact ⟨rfl, rfl⟩
  · have hd : decide ((vs.length : Int) ≤ 12) = false := decide_eq_false (by omega)
    rw [decide_eq_false h12, Bool.false_and]
    clear hH hm h12
    go_enter Try.func7, Try.ntmps7
    go_wp2
    go_ret
    exact ⟨rfl, rfl⟩
theorem small_sizes {vs : List (List UInt8)} (h : smB vs = true) : vs.length ≤ 12 ∧ ∀ v ∈ vs, v.length ≤ 4500 := by
  unfold smB at h
  rw [Bool.and_eq_true, decide_eq_true_iff] at h
  refine ⟨h.1, fun v hv => ?_⟩
  have h2 := h.2
  unfold shortB at h2
  rw [List.all_eq_true] at h2
  have := h2 (bs v) (List.mem_map_of_mem hv)
  rw [bs_size] at this
  simp at this
  omega
/-- What came in, as lists of bytes. -/
theorem in_wv {w : World} {A : Option Addr} {n c : Nat} {PS : List ByteArray} (h : InStr w A n c PS) : ∃ vs : List (List UInt8), n = vs.length ∧ Has w w.heap.size A n (wv vs) ∧ n ≤ maxLen ∧ (A = none → c = 0) := by
  obtain ⟨h1, h2, h3, h4⟩ := h
  have hl : PS.length = n := by simpa using h1.1
  refine ⟨PS.map ls, by simp [hl], ?_, by omega, h4⟩
  have : wv (PS.map ls) = PS.map Value.string := by
    unfold wv
    rw [List.map_map]
    refine List.map_congr_left fun x _ => ?_
    simp [bs_ls]
  rw [this]
  exact h1

end Go.Proofs.Ytgilpheclmmolaa
