/-
  Contracts of the program's fields and Decode of superblocks.
-/
import Derived.Test.YtdahnkampjkelaaSupG
namespace Go.Proofs.Ytdahnkampjkelaa
open Go.RowKit

theorem ret_sup1 {fn : Func} {R : Ending → World → Prop} {a : Act} {w : World} (p : Tmp) (hres : fn.results = #[.cell p 25]) (b : Nat) (hp : a.tmps.getD p undef = .pointer (some ⟨b, 0, none⟩))
    (c : Array Value) (hrow : Row w b 25 c) (hc : c.size = 5) (hd : a.defers = []) (hR : R (.returned (.agg c)) w) : bodyPost Try.prog fn R .ret a w := by
  refine bodyPost_ret (v := .agg c) ?_ hd hR
  have hl := load_sup hrow hc
  have hp' : a.tmps[p]?.getD undef = .pointer (some ⟨b, 0, none⟩) := by simpa using hp
  simp only [results, hres]
  simp [asAddr, hp', Sem.run_bind, Result.andThen, hl]

theorem wordB_take (l : List UInt8) (k : Nat) (h : 4 ≤ k) : wordB (l.take k) = wordB l := by
  unfold wordB
  simp only [List.getD_eq_getElem?_getD, List.getElem?_take]
  rw [if_pos (by omega), if_pos (by omega), if_pos (by omega), if_pos (by omega)]
/-- number of a part of four bytes, and of eight. -/
theorem num_four {w : World} {B len b off : Nat} {l : List UInt8} (hA : Has w B (some ⟨b, off, none⟩) len (l.map bv)) (s cap : Nat) (hs : s + 4 ≤ len) :
    Calls Try.prog 22 #[.slice (some ⟨b, off + s, none⟩) 4 cap] w fun e w' => e = .returned (.int .u64 (nv (wordB (l.drop s)))) ∧ w = w' := by
  have hl : l.length = len := by simpa using hA.1
  have h := num8_any _ 4 cap B _ w (hA.sub8 s 4 hs) (by omega)
  rwa [leV_four _ (by simp; omega), wordB_take _ _ (by omega)] at h
theorem num_eight {w : World} {B len b off : Nat} {l : List UInt8} (hA : Has w B (some ⟨b, off, none⟩) len (l.map bv)) (s cap : Nat) (hs : s + 8 ≤ len) :
    Calls Try.prog 22 #[.slice (some ⟨b, off + s, none⟩) 8 cap] w fun e w' => e = .returned (.int .u64 (nv (wordB (l.drop s)) + nv (wordB (l.drop (s + 4))) * 4294967296)) ∧ w = w' := by
  have hl : l.length = len := by simpa using hA.1
  have h := num8_any _ 8 cap B _ w (hA.sub8 s 8 hs) (by omega)
  rwa [leV_eight _ (by simp; omega), wordB_take _ _ (by omega), List.drop_take, wordB_take _ _ (by omega), List.drop_drop] at h

set_option maxHeartbeats 2000000 in
theorem fields_any (b off cap B : Nat) (l : List UInt8) (w : World) (hA : Has w B (some ⟨b, off, none⟩) 64 (l.map bv)) (hlc : 64 ≤ cap) (hB : B ≤ w.heap.size) :
    Calls Try.prog 23 #[.slice (some ⟨b, off, none⟩) 64 cap] w fun e w' => e = .returned (supOf l).val ∧ Below w.heap.size w w' := by
  obtain ⟨W0, hW0⟩ : ∃ x, x = w.alloc (.cells #[.int .u64 0, .int .i64 0, .int .u32 0, .int .i64 0, .int .u32 0] 25) := ⟨_, rfl⟩
  have hb0 : Below w.heap.size w W0 := by rw [hW0]; exact (Below.refl _ _).alloc (Nat.le_refl _) _
  have hr0 : Row W0 w.heap.size 25 #[.int .u64 0, .int .i64 0, .int .u32 0, .int .i64 0, .int .u32 0] := by rw [hW0]; exact row_new w _ _
  have HA := hA.below' hb0 hB
  have f6 := num_eight (show Has (World.drew W0) _ _ _ _ from HA) 6 (cap - 6) (by omega)
  have f14 := num_four (show Has (World.drew W0) _ _ _ _ from HA) 14 (cap - 14) (by omega)
  have f18 := num_four (show Has (World.drew W0) _ _ _ _ from HA) 18 (cap - 18) (by omega)
  have f22 := num_four (show Has (World.drew W0) _ _ _ _ from HA) 22 (cap - 22) (by omega)
  have hcell : W0.cell? ⟨b, off + 5, none⟩ = some (.int .u8 ((l.getD 5 0).toNat : Int)) := cell_bt HA 5 (by omega)
  have hval : (supOf l).val = .agg #[.int .u64 (nv (wordB (l.drop 6)) + nv (wordB (l.drop (6 + 4))) * 4294967296), .int .i64 ((l.getD 5 0).toNat : Int), .int .u32 (nv (wordB (l.drop 14))), .int .i64 (nv (wordB (l.drop 18))), .int .u32 (nv (wordB (l.drop 22)))] := by
    unfold Sup.val supOf
    have e : ∀ c : W32, ((c.toNat : Nat) : Int) = nv c := fun c => by unfold nv; rfl
    simp only [Int.natCast_add, Int.natCast_mul, e]
    rfl
  have k14 := nv_ge (wordB (l.drop 14))
  have j14 := nv_lt (wordB (l.drop 14))
  have k18 := nv_ge (wordB (l.drop 18))
  have j18 := nv_lt (wordB (l.drop 18))
  have k22 := nv_ge (wordB (l.drop 22))
  have j22 := nv_lt (wordB (l.drop 22))
  have hc14 : (14 : Int) ≤ (cap : Int) := by omega
  have hc18 : (18 : Int) ≤ (cap : Int) := by omega
  have hc22 : (22 : Int) ≤ (cap : Int) := by omega
  have hc26 : (26 : Int) ≤ (cap : Int) := by omega
  have hn6 : ¬ cap = 6 := by omega
  have hn14 : ¬ cap = 14 := by omega
  have hn18 : ¬ cap = 18 := by omega
  have hn22 : ¬ cap = 22 := by omega
  obtain ⟨x6, hx6⟩ : ∃ v, v = nv (wordB (l.drop 6)) + nv (wordB (l.drop (6 + 4))) * 4294967296 := ⟨_, rfl⟩
  obtain ⟨x14, hx14⟩ : ∃ v, v = nv (wordB (l.drop 14)) := ⟨_, rfl⟩
  obtain ⟨x18, hx18⟩ : ∃ v, v = nv (wordB (l.drop 18)) := ⟨_, rfl⟩
  obtain ⟨x22, hx22⟩ : ∃ v, v = nv (wordB (l.drop 22)) := ⟨_, rfl⟩
  obtain ⟨y5, hy5⟩ : ∃ v : Int, v = ((l.getD 5 0).toNat : Int) := ⟨_, rfl⟩
  have k5 := byte_lt (l.getD 5 0)
  rw [← hy5] at hcell hval k5
  have k50 : 0 ≤ y5 := by omega
  rw [← hx6] at f6 hval
  rw [← hx14] at f14 hval k14 j14
  rw [← hx18] at f18 hval k18 j18
  rw [← hx22] at f22 hval k22 j22
  have W5 : Hid (IntKind.i64.wrap y5 = y5) := by show _ = _; rw [IntKind.wrap_i64]; omega
  have W14 : Hid (IntKind.u32.wrap x14 = x14) := by show _ = _; rw [IntKind.wrap_u32]; omega
  have W18 : Hid (IntKind.i64.wrap x18 = x18) := by show _ = _; rw [IntKind.wrap_i64]; omega
  have W22 : Hid (IntKind.u32.wrap x22 = x22) := by show _ = _; rw [IntKind.wrap_u32]; omega
  have HVAL := Lib.hid hval
  have HB0 := Lib.hid hb0
  have HR0 := Lib.hid hr0
  clear hx6 hx14 hx18 hx22 hy5 hval hA hB hb0 hr0 HA
  go_enter Try.func23, Try.ntmps23
  go_wp2_with fail
  rw [← hW0]
  clear hW0
  go_still_tail 20, (by kernel_rfl)
  still_call (f6.mono fun e w' h => ⟨h.1, h.2.symm⟩)
  repeat still_step
  still_call (f14.mono fun e w' h => ⟨h.1, h.2.symm⟩)
  repeat still_step
  still_call (f18.mono fun e w' h => ⟨h.1, h.2.symm⟩)
  repeat still_step
  still_call (f22.mono fun e w' h => ⟨h.1, h.2.symm⟩)
  repeat still_step
  try refine wpStill_nil ?_
  change wpList _ _ _ _ _ (World.drew _)
  go_wp2_with (refine wpList_store_arr _ rfl rfl _ _ _ rfl w.heap.size (by exact rfl) #[.int .u64 x6, .int .i64 (IntKind.i64.wrap y5), .int .u32 (IntKind.u32.wrap x14), .int .i64 (IntKind.i64.wrap x18), .int .u32 (IntKind.u32.wrap x22)] (by exact rfl) _ _ (show Row (World.drew _) _ _ _ from HR0.out) supSize rfl (sup_one _ _ _ _ _) ?_; intro w9 hr9 hg9)
  rw [W5.out, W14.out, W18.out, W22.out] at hr9
  refine ret_sup1 _ rfl _ rfl _ hr9 rfl rfl ?_
  refine ⟨?_, below_row HB0.out.drew hg9 (Nat.le_refl _) (Nat.le_refl _)⟩
  rw [HVAL.out]

end Go.Proofs.Ytdahnkampjkelaa
