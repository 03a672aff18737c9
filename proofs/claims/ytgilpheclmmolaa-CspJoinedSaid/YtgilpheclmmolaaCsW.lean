/-
  Parse of package csp and of its reference; the comparison; the law's smallness and its examples.
-/
import Derived.Test.YtgilpheclmmolaaCsV
import Derived.Test.YtgilpheclmmolaaKeep
import Derived.Test.YtgilpheclmmolaaYes
namespace Go.Proofs.Ytgilpheclmmolaa
open Go.RowKit

/-- A list of strings is none of such a variable's cells. -/
theorem has_cv {w w' : World} {r B n n2 c2 : Nat} {A A2 : Option Addr} {u s : Bool} {l : List (List UInt8)} (h : Has w B A n (wv l)) (hr : RowCv w r u s A2 n2 c2) (hg : w.grownBy w' (some r)) (hB : B ≤ w.heap.size) : Has w' B A n (wv l) := by
  refine ⟨h.1, fun hn => ?_⟩
  obtain ⟨b, off, rfl, hb, hc⟩ := h.2 hn
  have hl := h.1
  have hne : b ≠ r := by
    rintro rfl
    have h0 := hc 0 (by omega)
    have hl0 : 0 < l.length := by rw [wv_length] at hl; omega
    rw [wv_get l 0 hl0] at h0
    have e : w.cell? ⟨b, off + 0, none⟩ = (#[Value.bool u, .bool s, .slice A2 n2 c2])[off + 0]? := by
      unfold World.cell?
      rw [show w.heap[b]? = _ from hr]
      simp
    rw [e] at h0
    match off with
    | 0 => simp at h0
    | 1 => simp at h0
    | 2 => simp at h0
    | k + 3 => simp at h0
  refine ⟨b, off, rfl, hb, fun j hj => ?_⟩
  rw [← hc j hj]
  have := hg.block b (by omega) (by simpa using hne)
  unfold World.cell?
  simp only [this]
/-- It answers what Merge answers, from its own variable. -/
theorem CspPost.kept {r : Cv × Int} {w w4 W9 : World} {r2 k : Nat} {A : Option Addr} (hk : r.1.names.length ≤ k ∧ (A = none → k = 0)) (hh : Has w4 w4.heap.size A r.1.names.length (wv r.1.names)) (hb : Below w.heap.size w w4) {u s : Bool} {A2 : Option Addr} {n2 c2 : Nat} (hr : RowCv w4 r2 u s A2 n2 c2) (h2 : w.heap.size ≤ r2) (hg : w4.grownBy W9 (some r2)) :
    CspPost r w (.returned (.tuple #[.agg #[.bool r.1.up, .bool r.1.bl, .slice A r.1.names.length k], .int .i64 r.2])) W9 :=
  ⟨A, k, rfl, hk, (has_cv hh hr hg (Nat.le_refl _)).more hg.size, hb.grown hg hb.size (fun j e => by cases e; exact h2)⟩

theorem pPar : ParC 9 := by
  intro s w hs
  have c := pMer
  unfold MerC at c
  go_enter Try.func9, Try.ntmps9
  go_wp2_with (refine wpList_alloc_arr _ rfl 2 rfl _ rfl #[.bool false, .bool false, .slice none 0 0] zeroCv ?_; intro W2 r2 hp2 hq2 hR2 hG2)
  have h1 := has_one W2 s
  have g2 : Below w.heap.size w W2 := (Below.refl _ w).grown hG2 (Nat.le_refl _) (fun j e => by cases e)
  have g3 := g2.alloc g2.size (.cells #[.string s] 9)
  have hR3 : RowCv (W2.alloc (.cells #[.string s] 9)) r2 false false none 0 0 := (((Below.refl W2.heap.size W2).alloc (Nat.le_refl _) _).block _ hq2).trans hR2
  have hlt := (Array.getElem?_eq_some_iff.1 (show (W2.alloc (.cells #[.string s] 9)).heap[r2]? = _ from hR3)).1
  have cM := c (some ⟨W2.heap.size, 0, none⟩) 1 [ls s] _ (by simp) (by simp [ls_length]; exact hs) h1
  simp only [List.length_singleton] at cM
  refine cM.mono ?_
  rintro e w4 ⟨A, k, rfl, hk, hh, hb⟩
  have hR4 : RowCv w4 r2 false false none 0 0 := (hb.block _ hlt).trans hR3
  have hb4 := g3.trans (hb.mono g3.size)
  clear cM h1 hG2 hR2 hR3 c
  go_wp2_with (refine wpList_store_cv rfl rfl _ _ rfl r2 (by exact rfl) _ _ _ _ _ (by exact rfl) _ _ _ _ _ hR4 ?_; intro W9 hr9 hG9)
  refine ret_cv 2 3 rfl rfl hr9 _ rfl rfl ?_
  exact CspPost.kept hk hh hb4 hR4 hp2 hG9

theorem refPar : ParC 10 := by
  intro s w hs
  have c := refMerge_any
  unfold MerC at c
  go_enter Try.func10, Try.ntmps10
  go_wp2_with (refine wpList_alloc_arr _ rfl 2 rfl _ rfl #[.bool false, .bool false, .slice none 0 0] zeroCv ?_; intro W2 r2 hp2 hq2 hR2 hG2)
  have h1 := has_one W2 s
  have g2 : Below w.heap.size w W2 := (Below.refl _ w).grown hG2 (Nat.le_refl _) (fun j e => by cases e)
  have g3 := g2.alloc g2.size (.cells #[.string s] 9)
  have hR3 : RowCv (W2.alloc (.cells #[.string s] 9)) r2 false false none 0 0 := (((Below.refl W2.heap.size W2).alloc (Nat.le_refl _) _).block _ hq2).trans hR2
  have hlt := (Array.getElem?_eq_some_iff.1 (show (W2.alloc (.cells #[.string s] 9)).heap[r2]? = _ from hR3)).1
  have cM := c (some ⟨W2.heap.size, 0, none⟩) 1 [ls s] _ (by simp) (by simp [ls_length]; exact hs) h1
  simp only [List.length_singleton] at cM
  refine cM.mono ?_
  rintro e w4 ⟨A, k, rfl, hk, hh, hb⟩
  have hR4 : RowCv w4 r2 false false none 0 0 := (hb.block _ hlt).trans hR3
  have hb4 := g3.trans (hb.mono g3.size)
  clear cM h1 hG2 hR2 hR3 c
  go_wp2_with (refine wpList_store_cv rfl rfl _ _ rfl r2 (by exact rfl) _ _ _ _ _ (by exact rfl) _ _ _ _ _ hR4 ?_; intro W9 hr9 hG9)
  refine ret_cv 2 3 rfl rfl hr9 _ rfl rfl ?_
  exact CspPost.kept hk hh hb4 hR4 hp2 hG9

set_option maxRecDepth 20000 in
set_option maxHeartbeats 2000000 in
/-- Both say the same. -/
theorem csps_same (c : Cv) (A1 A2 : Option Addr) (k1 k2 B : Nat) (w : World) (h1 : Has w B A1 c.names.length (wv c.names)) (h2 : Has w B A2 c.names.length (wv c.names)) (hB : B ≤ w.heap.size) (hl : c.names.length ≤ 1000000000) :
    Calls Try.prog 13 #[.agg #[.bool c.up, .bool c.bl, .slice A1 c.names.length k1], .agg #[.bool c.up, .bool c.bl, .slice A2 c.names.length k2]] w (Yes w) := by
  have e1 : (c.up == c.up) = true := by simp
  have e2 : (c.bl == c.bl) = true := by simp
  have ct : ∀ W, Below B w W → Calls Try.prog 15 #[.slice A1 c.names.length k1, .slice A2 c.names.length k2] W (Yes W) := fun W hb => by
    have hm : wv c.names = (c.names.map bs).map Value.string := by unfold wv; rw [List.map_map]; rfl
    have g1 := h1.below hb
    have g2 := h2.below hb
    rw [hm] at g1 g2
    have := texts_any A1 A2 c.names.length c.names.length k1 k2 _ _ B W g1 g2 hl hl
    rw [show textsB (c.names.map bs) (c.names.map bs) = true from by unfold textsB; simp] at this
    exact this
  go_enter Try.func13, Try.ntmps13
  go_wp2_with (first
    | (refine wpList_box_arr _ rfl 2 rfl _ _ rfl _ #[.bool c.up, .bool c.bl, .slice A1 c.names.length k1] rfl rfl ?_; intro W2 b2 hp2 hq2 hR2 hG2)
    | (refine wpList_box_arr _ rfl 3 rfl _ _ rfl _ #[.bool c.up, .bool c.bl, .slice A2 c.names.length k2] rfl rfl ?_; intro W3 b3 hp3 hq3 hR3 hG3; have g2 : Below w.heap.size w W2 := (Below.refl _ w).grown hG2 (Nat.le_refl _) (fun j e => by cases e); have g3 : Below W2.heap.size W2 W3 := (Below.refl _ W2).grown hG3 (Nat.le_refl _) (fun j e => by cases e); have gg := g2.trans (g3.mono g2.size); have hR2' : RowCv W3 b2 c.up c.bl A1 c.names.length k1 := (g3.block _ hq2).trans hR2; have hR3' : RowCv W3 b3 c.up c.bl A2 c.names.length k2 := hR3; obtain ⟨x0, x1, x2⟩ := RowCv.cells hR2'; obtain ⟨y0, y1, y2⟩ := RowCv.cells hR3'))
  refine (ct _ (gg.mono hB)).mono ?_
  rintro e w4 ⟨rfl, hb⟩
  go_wp2
  go_ret
  exact ⟨rfl, gg.trans (hb.mono gg.size)⟩

end Go.Proofs.Ytgilpheclmmolaa
