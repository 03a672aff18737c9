/-
  The walk of SectorCopies.
-/
import Derived.Test.YtbeapaliadahnaaDkG
import Derived.Test.YtbeapaliadahnaaKeepM
namespace Go.Proofs.Ytbeapaliadahnaa
open Go.RowKit

theorem Own8.frm {w w' : World} {F : Nat → Prop} {g c n : Nat} {l : List UInt8} (h : Own8 w g c n l) (hf : Frm F w w') (hg : ¬ F g) : Own8 w' g c n l := by
  obtain ⟨cur, hr, r⟩ := h
  exact ⟨cur, hf.obj hr hg, r⟩
theorem own_of_row {w : World} {g n : Nat} {l : List UInt8} (h : w.heap[g]? = some (.cells (l.map bv).toArray 5 (0, 0))) (hn : l.length = n) : Own8 w g n n l :=
  ⟨_, h, by simpa using hn, Nat.le_refl _, by rw [List.take_of_length_le (by simp [hn])]⟩
theorem write1 {w : World} {F : Nat → Prop} {a : Nat} {S : Dsk} (h : PD w F a 2 S) (hc : Calm S) (g cap : Nat) (xs : List UInt8) (hA : HasF F w (some ⟨g, 0, none⟩) 64 (xs.map bv)) :
    Calls Try.prog 15 #[.pointer (some ⟨a, 0, none⟩), .int .i64 1, .slice (some ⟨g, 0, none⟩) 64 cap] w fun e w' => e = .returned (.int .i64 0) ∧ PD w' (fun k => F k ∨ newF w w' k) a 2 (S.tick.put 1 xs) ∧ Frm F w w' := write_calm h hc 1 (by omega) _ cap xs hA
theorem read1 {w : World} {F : Nat → Prop} {a : Nat} {S : Dsk} (h : PD w F a 2 S) (hc : Calm S) (xs : List UInt8) (hs : S.sec 1 = xs) :
    Calls Try.prog 12 #[.pointer (some ⟨a, 0, none⟩), .int .i64 1] w fun e w' => PD w' F a 2 S.tick ∧ Frm F w w' ∧
      ∃ g, e = .returned (.tuple #[.slice (some ⟨g, 0, none⟩) 64 64, .int .i64 0]) ∧ w.heap.size ≤ g ∧ Own8 w' g 64 64 xs := by
  have hl : xs.length = 64 := by rw [← hs]; exact h.ok.sec (by omega)
  refine (read_calm h hc 1 (by omega)).mono ?_
  rintro e w' ⟨h1, h2, g, rfl, h3, h4⟩
  rw [hs] at h4
  exact ⟨h1, h2, g, rfl, h3, own_of_row h4 hl⟩
theorem image2 {w : World} {F : Nat → Prop} {a : Nat} {S : Dsk} (h : PD w F a 2 S) (hs : S.st = st0) : Calls Try.prog 30 #[.pointer (some ⟨a, 0, none⟩)] w fun e w' =>
    ∃ g, e = .returned (.slice (some ⟨g, 0, none⟩) 128 128) ∧ w.heap.size ≤ g ∧ Own8 w' g 128 128 (List.replicate 128 0) ∧ Below w.heap.size w w' := by
  refine (image_any h).mono ?_
  rintro e w' ⟨g, rfl, h1, h2, h3⟩
  rw [hs, flat_zeros] at h2
  exact ⟨g, rfl, h1, own_of_row h2 (by simp), h3⟩
theorem u8_of {x : Int} (h : (Lit.int .u8 x).wf = true) : ∃ b : UInt8, x = (b.toNat : Int) := by
  have := bounds_u8 h
  refine ⟨UInt8.ofNat x.toNat, ?_⟩
  rw [UInt8.toNat_ofNat']
  omega

set_option maxRecDepth 20000 in
set_option maxHeartbeats 3200000 in
theorem walkCopies (x y n : Int) (hx : (Lit.int .u8 x).wf = true) (hy : (Lit.int .u8 y).wf = true) (hn : (Lit.int .i64 n).wf = true) (w : World) : Calls Try.prog 6 #[.int .u8 x, .int .u8 y, .int .i64 n] w (Yes w) := by
  have hnew : Calls Try.prog 10 #[.int .i64 2] w fun e w' => ∃ a, e = .returned (.tuple #[.pointer (some ⟨a, 0, none⟩), .int .i64 0]) ∧ w.heap.size ≤ a ∧ PD w' (newF w w') a 2 (Dsk.fresh st0) ∧ Below w.heap.size w w' := new_yes 2 w (by omega) (by omega)
  obtain ⟨bx, ex⟩ := u8_of hx
  obtain ⟨by_, ey⟩ := u8_of hy
  have hnb := bounds_i64 hn
  have hmod : Calls Try.prog 35 #[.int .i64 n, .int .i64 64] w fun e w' => e = .returned (.int .i64 (n % 64)) ∧ w = w' := mod_any n 64 (by omega) (by omega) hnb.1 hnb.2 w
  obtain ⟨j, hj⟩ : ∃ j : Nat, n % 64 = (j : Int) := ⟨(n % 64).toNat, by omega⟩
  have hj64 : j < 64 := by omega
  have hblock := fun W => block_any bx W
  rw [← ex] at hblock
  have hmods : ∀ W, Calls Try.prog 35 #[.int .i64 n, .int .i64 64] W fun e w' => e = .returned (.int .i64 (j : Int)) ∧ W = w' := fun W => by rw [← hj]; exact mod_any n 64 (by omega) (by omega) hnb.1 hnb.2 W
  have hxl : Hid ((block bx).length = 64) := block_len bx
  generalize hB : block bx = B at hblock hxl
  have HY := Lib.hid ey
  have hy0 : 0 ≤ y := by omega
  have hy1 : y ≤ 255 := by have := byte_lt by_; omega
  clear hx hy hn hnb hj hmod ex ey hB
  go_enter Try.func6, Try.ntmps6
  go_wp2_with fail
  refine hnew.mono ?_
  rintro e w1 ⟨a, rfl, ha, hpd1, hb1⟩
  go_wp2_with fail
  refine (hblock w1).mono ?_
  rintro e w2 ⟨g1, c1, rfl, hg1, hown1, hb2⟩
  have hpd2 := hpd1.below hb2
  have hn1 : ¬ newF w w1 g1 := fun h => Nat.lt_irrefl _ (Nat.lt_of_lt_of_le h.2 hg1)
  have hA1 := own_hasF hown1 hn1
  go_wp2_with fail
  refine (write1 hpd2 (calm_fresh st0) g1 c1 B hA1).mono ?_
  rintro e w3 ⟨rfl, hpd3, hf3⟩
  have hown3 := hown1.frm hf3 hn1
  have hlt1 : g1 < w2.heap.size := by obtain ⟨cur, hr, _⟩ := hown1; exact hr.lt
  have hn3 : ∀ k, (newF w w1 k ∨ newF w2 w3 k) → k = g1 → False := fun k h e => by subst e; exact h.elim hn1 fun h => by have := h.1; omega
  have hc3 := hown3.cell hj64
  have hz3 := hown3.frozen j
  go_wp2_with fail
  refine (hmods w3).mono ?_
  rintro e w3' ⟨rfl, rfl⟩
  go_wp2_with fail
  have hs1 := hb1.size
  have hs2 := hb2.size
  have hs3 := hf3.size
  obtain ⟨F, hF⟩ : ∃ F : Nat → Prop, F = fun k => newF w w1 k ∨ newF w2 w3 k := ⟨_, rfl⟩
  have hFlo : ∀ k, F k → w.heap.size ≤ k := by rw [hF]; exact fun k h => h.elim (fun h => h.1) fun h => by have := h.1; omega
  have hb3 : Below w.heap.size w w3 := (hb1.trans (hb2.mono hs1)).trans (hf3.below (fun b hb => hb.1) (by omega))
  rw [← hF] at hpd3
  replace hn3 : ∀ k, F k → k = g1 → False := by rw [hF]; exact hn3
  have hpd4 := hpd3.keep (G := fun b => b = g1) ((Frm.refl (fun b => b = g1) w3).setCell (p := ⟨g1, j, none⟩) (.inl rfl) (.int .u8 y)) fun b e hb => hn3 b hb e
  have hb4 := hb3.setCell (p := ⟨g1, j, none⟩) (show w.heap.size ≤ g1 by omega) (.int .u8 y)
  clear hpd1 hpd2 hpd3 hf3 hown1 hown3 hA1 hn1 hn3 hc3 hz3 hb1 hb2 hb3 hF hnew hmods hlt1
  generalize w3.setCell ⟨g1, j, none⟩ (.int .u8 y) = w4 at *
  refine (read1 hpd4 ⟨rfl, rfl⟩ B rfl).mono ?_
  rintro e w5 ⟨hpd5, hf5, g5, rfl, hg5, hown5⟩
  have hn5 : ¬ F g5 := fun h => by have := hpd4.lt _ h; omega
  have hb5 := hb4.trans (hf5.below hFlo hb4.size)
  go_wp2_with fail
  refine (hblock w5).mono ?_
  rintro e w6 ⟨g6, c6, rfl, hg6, hown6, hb6⟩
  have hpd6 := hpd5.below hb6
  have hown56 := hown5.frm (F := fun _ => False) (Frm.of_below hb6) fun h => h
  have hby := bytes_any (some ⟨g5, 0, none⟩) (some ⟨g6, 0, none⟩) 64 64 64 c6 _ B B w6 hown56.has hown6.has
  rw [show eqL B B = true by simp [eqL]] at hby
  have hb6' := hb5.trans (hb6.mono hb5.size)
  have hc5 := hown56.cell (show 0 < 64 by omega)
  have hz5 := hown56.frozen 0
  have hpd7 := hpd6.keep (G := fun b => b = g5) ((Frm.refl (fun b => b = g5) w6).setCell (p := ⟨g5, 0, none⟩) (.inl rfl) (.int .u8 y)) fun b e hb => hn5 (e ▸ hb)
  have hb7 := hb6'.setCell (p := ⟨g5, 0, none⟩) (show w.heap.size ≤ g5 by have := hb4.size; omega) (.int .u8 y)
  clear hpd4 hb4 hpd5 hf5 hown5 hown56 hown6 hpd6 hb5 hb6' hn5
  go_wp2_with (go_at_call 14; refine hby.mono ?_; rintro e w' ⟨rfl, rfl⟩)
  clear hc5 hz5 hby
  generalize w6.setCell ⟨g5, 0, none⟩ (.int .u8 y) = w7 at *
  refine (read1 hpd7 ⟨rfl, rfl⟩ B rfl).mono ?_
  rintro e w8 ⟨hpd8, hf8, g8, rfl, hg8, hown8⟩
  have hb8 := hb7.trans (hf8.below hFlo hb7.size)
  clear hpd7 hf8 hb7
  go_wp2_with fail
  refine (image2 hpd8 rfl).mono ?_
  rintro e w9 ⟨g9, rfl, hg9, hown9, hbb9⟩
  have hpd9 := hpd8.below hbb9
  have hb9 := hb8.trans (hbb9.mono hb8.size)
  have hn9 : ¬ F g9 := fun h => by have := hpd8.lt _ h; omega
  have hown89 := hown8.frm (F := fun _ => False) (Frm.of_below hbb9) fun h => h
  clear hpd8 hown8 hbb9
  go_wp2_with fail
  refine (hblock w9).mono ?_
  rintro e w10 ⟨g10, c10, rfl, hg10, hown10, hbb10⟩
  have hpd10 := hpd9.below hbb10
  have hb10 := hb9.trans (hbb10.mono hb9.size)
  have hown8a := hown89.frm (F := fun _ => False) (Frm.of_below hbb10) fun h => h
  have hown9a := hown9.frm (F := fun _ => False) (Frm.of_below hbb10) fun h => h
  have hby := bytes_any (some ⟨g8, 0, none⟩) (some ⟨g10, 0, none⟩) 64 64 64 c10 _ B B w10 hown8a.has hown10.has
  rw [show eqL B B = true by simp [eqL]] at hby
  have hc9 := hown9a.cell (show 0 < 128 by omega)
  have hz9 := hown9a.frozen 0
  have hpd11 := hpd10.keep (G := fun b => b = g9) ((Frm.refl (fun b => b = g9) w10).setCell (p := ⟨g9, 0, none⟩) (.inl rfl) (.int .u8 y)) fun b e hb => hn9 (e ▸ hb)
  have hb11 := hb10.setCell (p := ⟨g9, 0, none⟩) (show w.heap.size ≤ g9 by have := hb8.size; omega) (.int .u8 y)
  clear hpd9 hown89 hown9 hbb10 hpd10 hb10 hown8a hown9a hown10 hn9 hb9
  go_wp2_with (go_at_call 14; refine hby.mono ?_; rintro e w' ⟨rfl, rfl⟩)
  clear hc9 hz9 hby
  generalize w10.setCell ⟨g9, 0, none⟩ (.int .u8 y) = w11 at *
  refine (image2 hpd11 rfl).mono ?_
  rintro e w12 ⟨g12, rfl, hg12, hown12, hbb12⟩
  have hb12 := hb11.trans (hbb12.mono hb11.size)
  have hc12 : w12.cell? ⟨g12, 0, none⟩ = some (.int .u8 0) := hown12.cell (show 0 < 128 by omega)
  clear hpd11 hown12 hbb12 hb11
  go_wp2_with fail
  refine (awake_any w12).mono ?_
  rintro e w13 ⟨rfl, hbb13⟩
  go_wp2_with fail
  go_ret
  exact ⟨rfl, hb12.trans (hbb13.mono hb12.size)⟩

end Go.Proofs.Ytbeapaliadahnaa
