/-
  The fixed examples of the statements of layer 19 (awake).
-/
import Derived.Test.YtpopkeidpohdiaaDoorStA
import Derived.Test.YtpopkeidpohdiaaDoorYes
namespace Go.Proofs.YtpopkeidpohdiaaDoor
open Go.RowKit

theorem ex19a : stsP (ls ⟨#[109, 97, 120, 45, 97, 103, 101, 61, 34, 51, 49, 53, 51, 54, 48, 48, 48, 34, 59, 32, 73, 110, 99, 108, 117, 100, 101, 83, 117, 98, 68, 111, 109, 97, 105, 110, 115, 59, 32, 112, 114, 101, 108, 111, 97, 100]⟩) = (⟨31536000, true⟩, 0) := by decide +kernel
theorem ex19b : stsP (ls ⟨#[105, 110, 99, 108, 117, 100, 101, 83, 117, 98, 68, 111, 109, 97, 105, 110, 115]⟩) = (⟨0, false⟩, 18) := by decide +kernel
theorem ex19c : stsP (ls ⟨#[109, 97, 120, 45, 97, 103, 101, 61, 49, 59, 32, 77, 65, 88, 45, 65, 71, 69, 61, 49]⟩) = (⟨0, false⟩, 17) := by decide +kernel
/-- Parse at a string of which the answer is known. -/
theorem pol_known {f : FuncId} {s : ByteArray} {R : Pv × Int} (hh : ∀ w, Calls Tryd.prog f #[.string s] w (PolPost (stsP (ls s)) w)) (h : stsP (ls s) = R) (w : World) : Calls Tryd.prog f #[.string s] w (PolPost R w) := by
  have := hh w
  rwa [h] at this
theorem stsParse_known (s : ByteArray) {R : Pv × Int} (hs : s.size ≤ 1000000) (h : stsP (ls s) = R) (W : World) : Calls Tryd.prog 7 #[.string s] W (PolPost R W) := by
  rw [← h]
  exact stsParse_any s hs W
theorem RSt19.boxed {w W W1 W2 : World} {p : Nat} {a : Int} {s : Bool} (hb : Below w.heap.size w W) (hp : W.heap.size ≤ p) (hg : W.grownBy W1 none) (hr : RowPv W2 p a s) (hg2 : W1.grownBy W2 (some p)) : RSt19 w W2 p a s :=
  ⟨hr, below_row (below_row0 hb hg (Nat.le_refl _)) hg2 (Nat.le_refl _) (Nat.le_trans hb.size hp), Nat.le_trans hb.size hp⟩
theorem RSt19.pass {w W W1 W2 : World} {p g : Nat} {a : Int} {s : Bool} (h : RSt19 w W p a s) (hp : W.heap.size ≤ g) (hg : W.grownBy W1 none) (hg2 : W1.grownBy W2 (some g)) : RSt19 w W2 p a s :=
  (h.grow0 hg).grow hg2 (Nat.le_trans h.bel.size hp) (by have := h.lt; omega)

set_option maxRecDepth 20000 in
set_option maxHeartbeats 4000000 in
theorem awake19_any (w : World) : Calls Tryd.prog 6 #[] w (Yes w) := by
  have c1 := pol_known (fun W => stsParse_any ⟨#[109, 97, 120, 45, 97, 103, 101, 61, 34, 51, 49, 53, 51, 54, 48, 48, 48, 34, 59, 32, 73, 110, 99, 108, 117, 100, 101, 83, 117, 98, 68, 111, 109, 97, 105, 110, 115, 59, 32, 112, 114, 101, 108, 111, 97, 100]⟩ (by decide) W) ex19a
  have c2 := pol_known (fun W => stsParse_any ⟨#[105, 110, 99, 108, 117, 100, 101, 83, 117, 98, 68, 111, 109, 97, 105, 110, 115]⟩ (by decide) W) ex19b
  have c3 := pol_known (fun W => stsParse_any ⟨#[109, 97, 120, 45, 97, 103, 101, 61, 49, 59, 32, 77, 65, 88, 45, 65, 71, 69, 61, 49]⟩ (by decide) W) ex19c
  have heq : ∀ W, (binOp .eql 23 (.agg #[.int .i64 31536000, .bool true]) (.agg #[.int .i64 31536000, .bool true])).run Tryd.prog W = .ok (.bool true) W := fun W => by rw [eq_pv]; rfl
  go_enter Tryd.func6, Tryd.ntmps6
  go_wp2_with fail
  refine (c1 _).mono ?_
  rintro e w1 ⟨rfl, hb⟩
  go_wp2_with (first
    | (refine wpList_alloc_arr _ rfl 1 rfl _ rfl #[.int .i64 0, .bool false] zeroPv ?_; intro W2 p1 hp1 hq1 hR1 hG1)
    | (refine wpList_store_pv rfl rfl _ _ rfl p1 (by exact rfl) 31536000 true (by exact rfl) _ _ hR1 ?_; intro W3 hr1 hG3))
  have hE := RSt19.boxed hb hp1 hG1 hr1 hG3
  clear hb hp1 hq1 hR1 hG1 hr1 hG3
  refine (c2 _).mono ?_
  rintro e w2 ⟨rfl, hb⟩
  have hE := hE.call hb
  clear hb
  go_wp2_with (first
    | (refine wpList_alloc_arr _ rfl 3 rfl _ rfl #[.int .i64 0, .bool false] zeroPv ?_; intro W4 p3 hp3 hq3 hR3 hG3)
    | (refine wpList_store_pv rfl rfl _ _ rfl p3 (by exact rfl) 0 false (by exact rfl) _ _ hR3 ?_; intro W5 hr3 hG5))
  have hE := hE.pass hp3 hG3 hG5
  clear hp3 hq3 hR3 hG3 hr3 hG5
  refine (c3 _).mono ?_
  rintro e w3 ⟨rfl, hb⟩
  have hE := hE.call hb
  clear hb
  go_wp2_with (first
    | (refine wpList_alloc_arr _ rfl 5 rfl _ rfl #[.int .i64 0, .bool false] zeroPv ?_; intro W6 p5 hp5 hq5 hR5 hG5)
    | (refine wpList_store_pv rfl rfl _ _ rfl p5 (by exact rfl) 0 false (by exact rfl) _ _ hR5 ?_
       intro W7 hr5 hG7
       have hE7 := hE.pass hp5 hG5 hG7)
    | (refine wpList_load_pv (by rfl) _ rfl p1 (by exact rfl) _ _ hE7.row ?_))
  go_ret
  exact ⟨rfl, hE7.bel⟩

end Go.Proofs.YtpopkeidpohdiaaDoor
