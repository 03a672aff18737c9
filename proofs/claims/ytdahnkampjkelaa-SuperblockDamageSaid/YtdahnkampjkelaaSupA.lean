/-
  What is asked of the program's functions, in plain words; awake of layer 9.
-/
import Derived.Test.YtdahnkampjkelaaSup4
import Derived.Test.YtdahnkampjkelaaYes
namespace Go.Proofs.Ytdahnkampjkelaa
open Go.RowKit

/-- The cells of a slice of bytes in memory of its own, whatever type its block was made for. -/
def OwnE (w : World) (g cap n : Nat) (l : List UInt8) : Prop := ∃ t cur, Row w g t cur ∧ cur.size = cap ∧ n ≤ cap ∧ cur.toList.take n = l.map bv
theorem OwnE.len {w : World} {g cap n : Nat} {l : List UInt8} (h : OwnE w g cap n l) : l.length = n := by
  obtain ⟨t, cur, hr, hs, hnc, ht⟩ := h
  have := congrArg List.length ht; simp at this; omega
theorem OwnE.le {w : World} {g cap n : Nat} {l : List UInt8} (h : OwnE w g cap n l) : n ≤ cap := by
  obtain ⟨t, cur, hr, hs, hnc, ht⟩ := h; exact hnc
theorem OwnE.lt {w : World} {g cap n : Nat} {l : List UInt8} (h : OwnE w g cap n l) : g < w.heap.size := by
  obtain ⟨t, cur, hr, _⟩ := h; exact hr.lt
theorem OwnE.cell {w : World} {g cap n : Nat} {l : List UInt8} (h : OwnE w g cap n l) {j : Nat} (hj : j < n) : w.cell? ⟨g, j, none⟩ = some (.int .u8 ((l.getD j 0).toNat : Int)) := by
  have hlen := h.len
  obtain ⟨t, cur, hr, hs, hnc, ht⟩ := h
  have hjc : j < cur.size := by omega
  rw [hr.cell hjc]
  have := congrArg (fun x => x[j]?) ht
  simp only [List.getElem?_take, hj, if_true, List.getElem?_map] at this
  rw [List.getElem?_eq_getElem (by omega : j < l.length)] at this
  simp only [Option.map_some, bv_eq] at this
  rw [List.getD_eq_getElem?_getD, List.getElem?_eq_getElem (by omega : j < l.length), Option.getD_some, ← this]
  simp [hjc]
theorem OwnE.frozen {w : World} {g cap n : Nat} {l : List UInt8} (h : OwnE w g cap n l) (j : Nat) : w.frozen? ⟨g, j, none⟩ = false := by
  obtain ⟨t, cur, hrow, _⟩ := h
  unfold Row at hrow
  simp [World.frozen?, hrow]
theorem OwnE.has {w : World} {g cap n : Nat} {l : List UInt8} (h : OwnE w g cap n l) : Has w w.heap.size (some ⟨g, 0, none⟩) n (l.map bv) := by
  have hl := h.len
  refine ⟨by simpa using hl, fun _ => ⟨g, 0, rfl, h.lt, fun j hj => ?_⟩⟩
  rw [Nat.zero_add, h.cell (by simp at hj; omega)]
  have hjl : j < l.length := by simpa using hj
  rw [List.getElem_map, bv_eq, List.getD_eq_getElem?_getD, List.getElem?_eq_getElem hjl, Option.getD_some]
theorem OwnE.set {w w' : World} {g cap n : Nat} {l : List UInt8} (h : OwnE w g cap n l) {j : Nat} (_ : j < n) (b : UInt8)
    (hw : ∀ t cur, Row w g t cur → Row w' g t (cur.setIfInBounds j (.int .u8 (b.toNat : Int)))) : OwnE w' g cap n (l.set j b) := by
  obtain ⟨t, cur, hr, hs, hnc, ht⟩ := h
  refine ⟨_, _, hw t cur hr, by simpa using hs, hnc, ?_⟩
  rw [Array.toList_setIfInBounds, List.take_set, ht, List.map_set]
  rfl
theorem OwnE.set_cell {w : World} {g cap n : Nat} {l : List UInt8} (h : OwnE w g cap n l) {j : Nat} (hj : j < n) (b : UInt8) (v : Int) (hv : v = (b.toNat : Int)) : OwnE (w.setCell ⟨g, j, none⟩ (.int .u8 v)) g cap n (l.set j b) := by
  subst hv
  refine h.set hj b fun t cur hr => ?_
  unfold Row
  rw [setCell_eq_setRow w g j cur _ (0, 0) _ hr]
  exact setRow_heap w g cur _ _ _ hr
/-- A slice of bytes whose memory is newer than a bound. -/
def OwnV (w : World) (base : Nat) (v : Value) (n : Nat) (l : List UInt8) : Prop := ∃ g c, v = .slice (some ⟨g, 0, none⟩) n c ∧ base ≤ g ∧ OwnE w g c n l
theorem OwnV.has {w : World} {base n : Nat} {v : Value} {l : List UInt8} (h : OwnV w base v n l) : ∃ A c, v = .slice A n c ∧ Has w w.heap.size A n (l.map bv) ∧ n ≤ c := by
  obtain ⟨g, c, e, _, h⟩ := h
  exact ⟨_, c, e, h.has, h.le⟩
theorem OwnV.of_own {w : World} {base n : Nat} {v : Value} {l : List UInt8} (h : w.ownsRow base 5 1 v n (l.map bv)) (hn : 0 < n) : OwnV w base v n l := by
  rcases h.2 with ⟨rfl, h0⟩ | ⟨g, cap, cur, rfl, hb, hg, hnc, _, hsz, htake⟩
  · omega
  · exact ⟨g, cap, rfl, hb, _, cur, hg, by omega, hnc, by simpa using htake⟩

def ValOk (F : FuncId) : Prop := ∀ (g a e n s : Int) (w : World), Calls Try.prog F #[.agg #[.int .u64 g, .int .i64 a, .int .u32 e, .int .i64 n, .int .u32 s]] w fun r w' => r = .returned (.bool (sok a n)) ∧ Below w.heap.size w w'
def EncNo (F : FuncId) : Prop := ∀ (Z : Sup), ¬ Z.ok → ∀ w : World, Calls Try.prog F #[Z.val] w fun r w' => r = .returned (.tuple #[.slice none 0 0, .int .i64 1]) ∧ Below w.heap.size w w'
def EncYes (F : FuncId) : Prop := ∀ (Z : Sup), Z.ok → Z.g < 18446744073709551616 → ∀ w : World, Calls Try.prog F #[Z.val] w fun r w' => (∃ v, r = .returned (.tuple #[v, .int .i64 0]) ∧ OwnV w' w.heap.size v 64 Z.enc) ∧ Below w.heap.size w w'
def DecOk (F : FuncId) : Prop := ∀ (A : Option Addr) (len cap B : Nat) (l : List UInt8) (w : World), Has w B A len (l.map bv) → len ≤ cap → len ≤ 1000000 → B ≤ w.heap.size → Calls Try.prog F #[.slice A len cap] w (SDecP w l)
def ChoOk (F : FuncId) : Prop := ∀ (A1 A2 : Option Addr) (n1 c1 n2 c2 B : Nat) (l m : List UInt8) (w : World), Has w B A1 n1 (l.map bv) → Has w B A2 n2 (m.map bv) → n1 ≤ c1 → n2 ≤ c2 → n1 ≤ 1000000 → n2 ≤ 1000000 → B ≤ w.heap.size →
  Calls Try.prog F #[.slice A1 n1 c1, .slice A2 n2 c2] w (SChoP w l m)

theorem refEncE : EncYes 10 := fun Z h hg w => (refEncS_yes Z h hg w).mono (by rintro r w' ⟨⟨v, e, ho⟩, hb⟩; exact ⟨⟨v, e, OwnV.of_own ho (by omega)⟩, hb⟩)
theorem row5 {W : World} {b : Nat} {g a e n s : Int} (h : Row W b 25 #[.int .u64 g, .int .i64 a, .int .u32 e, .int .i64 n, .int .u32 s]) : SupAt W b g a e n s :=
  ⟨h.cell (k := 0) (by simp), h.cell (k := 1) (by simp), h.cell (k := 2) (by simp), h.cell (k := 3) (by simp), h.cell (k := 4) (by simp)⟩
/-- The superblock of the sanity check. -/
def Z5 : Sup := ⟨5, 1, 2#32, 3, 4#32⟩
theorem z5_val : Z5.val = .agg #[.int .u64 5, .int .i64 1, .int .u32 2, .int .i64 3, .int .u32 4] := by
  unfold Sup.val Z5
  rw [show nv 2#32 = 2 by unfold nv; rfl, show nv 4#32 = 4 by unfold nv; rfl]
  rfl
theorem z5_ok : Z5.ok := ⟨.inr rfl, by decide, by decide⟩
theorem serr_zeros : serr (List.replicate 64 0) = 7 := serr_7 (by decide) (by decide +kernel)

set_option maxHeartbeats 4000000 in
set_option maxRecDepth 20000 in
theorem awake9_any (hE : EncYes 9) (hD : DecOk 11) (hC : ChoOk 18) (w : World) : Calls Try.prog 8 #[] w (Yes w) := by
  have e1 := hE Z5 z5_ok (by decide)
  rw [z5_val] at e1
  have HS : Hid (serr Z5.enc = 0) := Lib.hid (serr_enc Z5 z5_ok (by decide))
  have HG : Hid (sgot Z5.enc = Z5) := Lib.hid (sgot_enc Z5 z5_ok (by decide))
  go_enter Try.func8, Try.ntmps8
  go_wp2_with fail
  refine (e1 w).mono ?_
  rintro r w1 ⟨⟨v, rfl, hown⟩, hb1⟩
  obtain ⟨A, c, rfl, hh, hlc⟩ := hown.has
  clear e1 hown
  have d1 := hD A 64 c _ _ w1 hh hlc (by omega) (Nat.le_refl _)
  unfold SDecP at d1
  rw [HG.out, HS.out, z5_val] at d1
  go_wp2_with fail
  refine d1.mono ?_
  rintro r w2 ⟨rfl, hb2⟩
  clear d1
  go_wp2_with (at_make; refine wpList_make_bytes _ rfl _ _ (by exact rfl) 64 (by exact rfl) (by exact rfl) (by omega) ?_; intro w3 g hg hgl hr hgr)
  have hrow3 : Row w3 w2.heap.size 25 #[.int .u64 5, .int .i64 1, .int .u32 2, .int .i64 3, .int .u32 4] := (row_new w2 _ _).grown0 hgr
  have hb3 : Below w2.heap.size w2 w3 := below_row0 ((Below.refl _ _).alloc (Nat.le_refl _) _) hgr (Nat.le_refl _)
  have hz := (Own8.zeros hr).has
  have hlt3 := hrow3.lt
  have hb03 := hb1.trans ((hb2.trans (hb3.mono hb2.size)).mono hb1.size)
  have hh3 := (hh.below hb2).below' hb3 (hb2.size)
  have hs13 : w1.heap.size ≤ w3.heap.size := Nat.le_trans hb2.size hb3.size
  have d2 := hD (some ⟨g, 0, none⟩) 64 64 _ _ w3 hz (Nat.le_refl _) (by omega) (Nat.le_refl _)
  unfold SDecP at d2
  rw [serr_zeros, sgot_no (by rw [serr_zeros]; decide), Sup.no_val] at d2
  clear hr hgr hz hb1 hb2 hb3 hh hg hgl
  go_wp2_with fail
  refine d2.mono ?_
  rintro r w4 ⟨rfl, hb4⟩
  clear d2
  obtain ⟨W4, hW4⟩ : ∃ x, x = w4.alloc (.cells #[.int .u64 0, .int .i64 0, .int .u32 0, .int .i64 0, .int .u32 0] 25) := ⟨_, rfl⟩
  have hb5 : Below w3.heap.size w3 W4 := by rw [hW4]; exact hb4.alloc hb4.size _
  have hrow4 := hrow3.below hb5 hlt3
  have hlt4 := hrow4.lt
  have hh4 := hh3.below' hb5 hs13
  have c1 := hC none A 0 0 64 c W4.heap.size [] Z5.enc W4 (Has.nil _ _ _) (hh4.more (Nat.le_trans hs13 hb5.size)) (Nat.le_refl _) hlc (by omega) (by omega) (Nat.le_refl _)
  obtain ⟨q1, q2, q3⟩ := ch_b (a := []) (b := Z5.enc) (by rw [serr_5 (by decide)]; decide) HS.out
  unfold SChoP at c1
  rw [q1, q2, q3, HG.out, z5_val] at c1
  clear q1 q2 q3 hb4 hrow3 hh3 hh4
  go_wp2_with fail
  rw [← hW4]
  refine c1.mono ?_
  rintro r w5 ⟨rfl, hb6⟩
  clear c1 hW4
  have hrow5 := hrow4.below hb6 hlt4
  go_upto_region 5 with fail
  obtain ⟨W5, hW5⟩ : ∃ x, x = w5.alloc (.cells #[.int .u64 5, .int .i64 1, .int .u32 2, .int .i64 3, .int .u32 4] 25) := ⟨_, rfl⟩
  have hrow6 : Row W5 w2.heap.size 25 #[.int .u64 5, .int .i64 1, .int .u32 2, .int .i64 3, .int .u32 4] := by rw [hW5]; exact hrow5.grown0 (World.grownBy_alloc w5 _ _)
  have hrow8 : Row W5 w5.heap.size 25 #[.int .u64 5, .int .i64 1, .int .u32 2, .int .i64 3, .int .u32 4] := by rw [hW5]; exact row_new w5 _ _
  have hb7 : Below w.heap.size w W5 := by
    have h1 : Below W4.heap.size W4 W5 := by rw [hW5]; exact hb6.alloc hb6.size _
    exact hb03.trans ((hb5.trans (h1.mono hb5.size)).mono hb03.size)
  rw [← hW5]
  obtain ⟨k0, k1, k2, k3, k4⟩ := row5 hrow6
  obtain ⟨j0, j1, j2, j3, j4⟩ := row5 hrow8
  clear hrow5 hb6 hb5 hrow4 hb03 hW5
  go_wp2
  go_ret
  exact ⟨rfl, hb7⟩

end Go.Proofs.Ytdahnkampjkelaa
