/-
  The law's awake of layer 21.
-/
import Derived.Test.YtmfoegpdjajicaaFeF
import Derived.Test.YtmfoegpdjajicaaFeG
import Derived.Test.YtmfoegpdjajicaaYes
import Derived.Lib.SlBytesConst
namespace Go.Proofs.Ytmfoegpdjajicaa
open Go.RowKit

theorem ex21a : fpar [65, 58, 32, 120, 32, 13, 10, 98, 58, 121, 10, 13, 10, 114, 101, 115, 116] = ([⟨[97], [120]⟩, ⟨[98], [121]⟩], 0) := by decide
theorem ex21b : fpar [32, 120, 58, 32, 121, 10] = ([], 4) := by decide
theorem ex21c : fpar [97, 58, 32, 98] = ([], 5) := by decide
theorem ex21d : fall [⟨[97], [120]⟩, ⟨[98], [121]⟩] [66] = [[121]] := by decide
/-- Parse of a literal. -/
theorem par_lit (t : List UInt8) (r : List Fv × Int) (h : fpar t = r) (ht : t.length ≤ 1000) (W : World) (n : Nat) (hn : t.length = n) (cs : Array Value) (hcs : cs = (t.map bv).toArray) (fr : Nat × Nat) :
    Calls Try.prog 10 #[.slice (some ⟨W.heap.size, 0, none⟩) n n] (W.alloc (.cells cs 5 fr)) (FdsPost r (W.alloc (.cells cs 5 fr))) := by
  subst hn
  have hh := Has.laid W 5 cs fr t.length (t.map bv) hcs (by simp)
  rw [← h]
  exact fParse_any _ _ t _ (by omega) (hh.more (by simp))

set_option maxRecDepth 20000 in
set_option maxHeartbeats 4000000 in
theorem awake21_any (w : World) : Calls Try.prog 8 #[] w (Yes w) := by
  have kc1 := fun W : World => Lib.run_convert_bytes_const (P := Try.prog) W 22 5 #[.int .u8 65, .int .u8 58, .int .u8 32, .int .u8 120, .int .u8 32, .int .u8 13, .int .u8 10, .int .u8 98, .int .u8 58, .int .u8 121, .int .u8 10, .int .u8 13, .int .u8 10, .int .u8 114, .int .u8 101, .int .u8 115, .int .u8 116] 17 17 tyBs tyU8
  have c1 := fun W => par_lit _ _ ex21a (by decide) W 17 rfl #[.int .u8 65, .int .u8 58, .int .u8 32, .int .u8 120, .int .u8 32, .int .u8 13, .int .u8 10, .int .u8 98, .int .u8 58, .int .u8 121, .int .u8 10, .int .u8 13, .int .u8 10, .int .u8 114, .int .u8 101, .int .u8 115, .int .u8 116] rfl (17, 18)
  have kc2 := fun W : World => Lib.run_convert_bytes_const (P := Try.prog) W 22 5 #[.int .u8 32, .int .u8 120, .int .u8 58, .int .u8 32, .int .u8 121, .int .u8 10] 6 6 tyBs tyU8
  have c2 := fun W => par_lit _ _ ex21b (by decide) W 6 rfl #[.int .u8 32, .int .u8 120, .int .u8 58, .int .u8 32, .int .u8 121, .int .u8 10] rfl (6, 7)
  have kc3 := fun W : World => Lib.run_convert_bytes_const (P := Try.prog) W 22 5 #[.int .u8 97, .int .u8 58, .int .u8 32, .int .u8 98] 4 4 tyBs tyU8
  have c3 := fun W => par_lit _ _ ex21c (by decide) W 4 rfl #[.int .u8 97, .int .u8 58, .int .u8 32, .int .u8 98] rfl (4, 5)
  go_enter Try.func8, Try.ntmps8
  go_wp2_with fail
  refine (c1 _).mono ?_
  rintro e w1 ⟨A1, k1, rfl, hk1, _, hh1, hb1⟩
  have hB1 := ((Below.refl w.heap.size w).alloc (Nat.le_refl _) (.cells #[.int .u8 65, .int .u8 58, .int .u8 32, .int .u8 120, .int .u8 32, .int .u8 13, .int .u8 10, .int .u8 98, .int .u8 58, .int .u8 121, .int .u8 10, .int .u8 13, .int .u8 10, .int .u8 114, .int .u8 101, .int .u8 115, .int .u8 116] 5 (17, 18))).trans (hb1.mono (by simp))
  clear c1 hb1 kc1
  go_wp2_with fail
  refine (c2 _).mono ?_
  rintro e w2 ⟨A2, k2, rfl, hk2, hn2, _, hb2⟩
  have hb2' := ((Below.refl w1.heap.size w1).alloc (Nat.le_refl _) (.cells #[.int .u8 32, .int .u8 120, .int .u8 58, .int .u8 32, .int .u8 121, .int .u8 10] 5 (6, 7))).trans (hb2.mono (by simp))
  have hh2 := hh1.below hb2'
  have hB2 := hB1.trans (hb2'.mono hB1.size)
  have hs2 := hb2'.size
  clear c2 kc2 hb2 hb2' hh1 hB1
  go_wp2_with fail
  refine (c3 _).mono ?_
  rintro e w3 ⟨A3, k3, rfl, hk3, hn3, _, hb3⟩
  have hb3' := ((Below.refl w2.heap.size w2).alloc (Nat.le_refl _) (.cells #[.int .u8 97, .int .u8 58, .int .u8 32, .int .u8 98] 5 (4, 5))).trans (hb3.mono (by simp))
  have hh3 := (hh2.below' hb3' hs2).more (Nat.le_trans hs2 hb3'.size)
  have hB3 := hB2.trans (hb3'.mono hB2.size)
  clear c3 kc3 hb3 hb3' hh2 hB2
  have c4 := fFirst_any A1 k1 [⟨[97], [120]⟩, ⟨[98], [121]⟩] ⟨#[66]⟩ w3 hh3 (by simp) (by decide) (by decide)
  rw [show ls ⟨#[66]⟩ = [66] from rfl, ex21d] at c4
  go_wp2_with fail
  refine c4.mono ?_
  rintro e w4 ⟨rfl, hb4⟩
  obtain ⟨b, off, rfl, hbb, d1, d2⟩ := (hh3.below hb4).at_ (k := 0) (by decide)
  have hB4 := hB3.trans (hb4.mono hB3.size)
  replace d1 : w4.cell? ⟨b, off, none⟩ = some (.string ⟨#[97]⟩) := d1
  replace d2 : w4.cell? ⟨b, off + 1, none⟩ = some (.string ⟨#[120]⟩) := by
    have := d2
    simp at this
    exact this
  clear hh3 hb4 hB3 c4
  go_wp2
  go_ret
  exact ⟨ret_bool (by rw [toList_ls, ls_bs]; rfl), hB4⟩

end Go.Proofs.Ytmfoegpdjajicaa
