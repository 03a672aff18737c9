/-
  Contract of the reference's Decode of superblocks.
-/
import Derived.Test.YtdahnkampjkelaaSup2
import Derived.Test.YtdahnkampjkelaaPart8
import Derived.Laws.ResultCell
import Derived.Laws.Rows
namespace Go.Proofs.Ytdahnkampjkelaa
open Go.RowKit

theorem wordB_take4 (l : List UInt8) (s : Nat) (h : s + 4 ≤ l.length) : wordB (l.drop s) = fixedW (l.getD s 0) (l.getD (s + 1) 0) (l.getD (s + 2) 0) (l.getD (s + 3) 0) := by
  unfold wordB
  simp only [List.getD_eq_getElem?_getD, List.getElem?_drop, Nat.add_zero]
/-- The value of decoding's answer. -/
theorem Sup.no_val : Sup.no.val = .agg #[.int .u64 0, .int .i64 0, .int .u32 0, .int .i64 0, .int .u32 0] := by
  unfold Sup.val Sup.no; rw [nv_zero]; rfl
theorem sup_lt (l : List UInt8) : (supOf l).g < 18446744073709551616 := by
  unfold supOf
  have h1 := (wordB (l.drop 6)).isLt
  have h2 := (wordB (l.drop 10)).isLt
  simp only
  omega
/-- What Decode answers, over the bytes l. -/
def SDecP (w : World) (l : List UInt8) (r : Ending) (w' : World) : Prop := r = .returned (.tuple #[(sgot l).val, .int .i64 (serr l : Nat)]) ∧ Below w.heap.size w w'
theorem SDecP.no {w w' : World} {l : List UInt8} (n : Nat) (h : Hid (serr l = n)) (hn : n ≠ 0) (hb : Below w.heap.size w w') : SDecP w l (.returned (.tuple #[.agg #[.int .u64 0, .int .i64 0, .int .u32 0, .int .i64 0, .int .u32 0], .int .i64 (n : Int)])) w' := by
  have h0 : serr l ≠ 0 := by rw [h.out]; exact hn
  refine ⟨?_, hb⟩
  rw [sgot_no h0, h.out, Sup.no_val]

theorem supUnd : (Try.prog.underlying 25).map (fun d => match d with | .struct _ | .array _ _ => true | _ => false) = some true := by kernel_rfl
theorem supSize : (Try.prog.info? 25).map (·.size) = some 5 := by kernel_rfl
theorem sup_one (g a e n s : Int) : (#[Value.int .u64 g, .int .i64 a, .int .u32 e, .int .i64 n, .int .u32 s]).all (·.oneCell') = true := by
  simp [Value.oneCell', Value.cells]
/-- A superblock's variable. -/
def SupRow (w : World) (b : Nat) (Z : Sup) : Prop := Row w b 25 #[.int .u64 (Z.g : Int), .int .i64 Z.a, .int .u32 (nv Z.e), .int .i64 Z.n, .int .u32 (nv Z.s)]
theorem load_sup {w : World} {b : Nat} {c : Array Value} (h : Row w b 25 c) (hc : c.size = 5) : (loadVar 25 ⟨b, 0, none⟩).run Try.prog w = .ok (.agg c) w := by
  have hu := supUnd
  obtain ⟨d, hd⟩ : ∃ d, Try.prog.underlying 25 = some d := by
    cases hx : Try.prog.underlying 25 with
    | none => rw [hx] at hu; cases hu
    | some d => exact ⟨d, rfl⟩
  rw [hd] at hu
  cases d <;> first
    | exact run_loadVar_row (P := Try.prog) w b _ _ c (0, 0) _ h hd rfl (by rw [hc]; exact supSize)
    | cases hu
theorem wpList_load_sup {ops : Array Oper} {rest : List Oper} {o : Oper} {a : Act} {w : World} {Q : Exit → Act → World → Prop} (hgd : o.guard = none) (x : Operand) (ho : o.op = .load 25 x)
    (g : Nat) (hx : a.eval x = .pointer (some ⟨g, 0, none⟩)) (c : Array Value) (h0 : Row w g 25 c) (hc : c.size = 5)
    (h : wpList Try.prog ops Q rest (a.put o.dst (.agg c)) w) : wpList Try.prog ops Q (o :: rest) a w := by
  have hu := supUnd
  obtain ⟨d, hd⟩ : ∃ d, Try.prog.underlying 25 = some d := by
    cases hx : Try.prog.underlying 25 with
    | none => rw [hx] at hu; cases hu
    | some d => exact ⟨d, rfl⟩
  rw [hd] at hu
  cases d <;> first
    | exact wpList_load_row hgd _ x ho g hx _ c (0, 0) _ h0 hd rfl (by rw [hc]; exact supSize) h
    | cases hu
theorem bs_eq {l m : List UInt8} (h : l = m) : ((bs l).toList == (bs m).toList) = true := by subst h; simp
theorem bs_ne {l m : List UInt8} (h : ¬ l = m) : ((bs l).toList == (bs m).toList) = false := by
  rw [toList_ls, toList_ls, ls_bs, ls_bs, beq_eq_false_iff_ne]; exact h
theorem ret_sup {fn : Func} {R : Ending → World → Prop} {a : Act} {w : World} (p u : Tmp) (hres : fn.results = #[.cell p 25, .tmp u]) (b : Nat) (hp : a.tmps.getD p undef = .pointer (some ⟨b, 0, none⟩))
    (c : Array Value) (hrow : Row w b 25 c) (hc : c.size = 5) (v : Value) (hv : a.tmps.getD u undef = v) (hd : a.defers = []) (hR : R (.returned (.tuple #[.agg c, v])) w) : bodyPost Try.prog fn R .ret a w := by
  refine bodyPost_ret (v := .tuple #[.agg c, v]) ?_ hd hR
  rw [results_cell_tmp hres, hp, hv]
  simp [asAddr, Result.andThen, load_sup hrow hc]

set_option maxHeartbeats 2000000 in
theorem refDecS_any (A : Option Addr) (len cap B : Nat) (l : List UInt8) (w : World) (hA : Has w B A len (l.map bv)) (hlc : len ≤ cap) (hlen : len ≤ 1000000) (hB : B ≤ w.heap.size) :
    Calls Try.prog 12 #[.slice A len cap] w (SDecP w l) := by
  have hL : l.length = len := by simpa using hA.1
  by_cases h1 : len = 64
  · subst h1
    obtain ⟨b, off, rfl, _, _⟩ := hA.2 (by omega)
    have fw : ∀ (s cap : Nat), s + 4 ≤ 64 → ∀ w', Has w' B (some ⟨b, off, none⟩) 64 (l.map bv) → Calls Try.prog 25 #[.slice (some ⟨b, off + s, none⟩) 4 cap] w' fun e w'' => e = .returned (.tuple #[.int .u32 (nv (wordB (l.drop s))), .int .i64 0]) ∧ Below w'.heap.size w' w'' := fun s cap hs w' h => refWord h s cap hs
    have f60 := fw 60 (cap - 60) (by omega)
    have hsum := fun w' (h : Has w' B (some ⟨b, off, none⟩) 64 (l.map bv)) => refSum_any (some ⟨b, off, none⟩) 60 cap B (l.take 60) w' (h.head8 60 (by omega)) (by omega)
    obtain ⟨W0, hW0⟩ : ∃ x, x = w.alloc (.cells #[.int .u64 0, .int .i64 0, .int .u32 0, .int .i64 0, .int .u32 0] 25) := ⟨_, rfl⟩
    have hb0 : Below w.heap.size w W0 := by rw [hW0]; exact (Below.refl _ _).alloc (Nat.le_refl _) _
    have hr0 : Row W0 w.heap.size 25 #[.int .u64 0, .int .i64 0, .int .u32 0, .int .i64 0, .int .u32 0] := by rw [hW0]; exact row_new w _ _
    have hlt0 := hr0.lt
    have HA := Lib.hid (hA.below' hb0 hB)
    have hB0 : B ≤ W0.heap.size := Nat.le_trans hB hb0.size
    have HB0 := Lib.hid hb0
    have HR0 := Lib.hid hr0
    have hcap : (64 : Int) ≤ (cap : Int) := by omega
    by_cases h7 : wordB (l.drop 60) = crcSum (l.take 60)
    · obtain ⟨x, hx⟩ : ∃ x, x = nv (wordB (l.drop 60)) := ⟨_, rfl⟩
      have hsx := hx
      rw [h7] at hsx
      have HOK1 := Lib.hid h7
      have HLEN := Lib.hid hL
      have hne : (x != x) = false := by simp
      rw [← hx] at f60
      rw [← hsx] at hsum
      have f6 := fw 6 (cap - 6) (by omega)
      have f10 := fw 10 (cap - 10) (by omega)
      have f14 := fw 14 (cap - 14) (by omega)
      have f18 := fw 18 (cap - 18) (by omega)
      have f22 := fw 22 (cap - 22) (by omega)
      have hval : (supOf l).val = .agg #[.int .u64 (nv (wordB (l.drop 6)) + nv (wordB (l.drop 10)) * 4294967296), .int .i64 ((l.getD 5 0).toNat : Int), .int .u32 (nv (wordB (l.drop 14))), .int .i64 (nv (wordB (l.drop 18))), .int .u32 (nv (wordB (l.drop 22)))] := by
        unfold Sup.val supOf
        have e : ∀ c : W32, ((c.toNat : Nat) : Int) = nv c := fun c => by unfold nv; rfl
        simp only [Int.natCast_add, Int.natCast_mul, e]
        rfl
      have k6 := nv_ge (wordB (l.drop 6))
      have j6 := nv_lt (wordB (l.drop 6))
      have k10 := nv_ge (wordB (l.drop 10))
      have j10 := nv_lt (wordB (l.drop 10))
      have k18 := nv_ge (wordB (l.drop 18))
      have j18 := nv_lt (wordB (l.drop 18))
      have hlg := sup_lt l
      have hcell : ∀ w', Has w' B (some ⟨b, off, none⟩) 64 (l.map bv) → w'.cell? ⟨b, off + 5, none⟩ = some (.int .u8 ((l.getD 5 0).toNat : Int)) := fun w' h => cell_bt h 5 (by omega)
      obtain ⟨x6, hx6⟩ : ∃ v, v = nv (wordB (l.drop 6)) := ⟨_, rfl⟩
      obtain ⟨x10, hx10⟩ : ∃ v, v = nv (wordB (l.drop 10)) := ⟨_, rfl⟩
      obtain ⟨x14, hx14⟩ : ∃ v, v = nv (wordB (l.drop 14)) := ⟨_, rfl⟩
      obtain ⟨x18, hx18⟩ : ∃ v, v = nv (wordB (l.drop 18)) := ⟨_, rfl⟩
      obtain ⟨x22, hx22⟩ : ∃ v, v = nv (wordB (l.drop 22)) := ⟨_, rfl⟩
      obtain ⟨y5, hy5⟩ : ∃ v : Int, v = ((l.getD 5 0).toNat : Int) := ⟨_, rfl⟩
      have k5 := byte_lt (l.getD 5 0)
      have k50 : 0 ≤ y5 := by omega
      rw [← hx6] at f6 hval k6 j6
      rw [← hx10] at f10 hval k10 j10
      rw [← hx14] at f14 hval
      rw [← hx18] at f18 hval k18 j18
      rw [← hx22] at f22 hval
      rw [← hy5] at hval hcell k5
      have henc : ((supOf l).ok ∧ ∀ W, Calls Try.prog 10 #[(supOf l).val] W fun r w' => (∃ v, r = .returned (.tuple #[v, .int .i64 0]) ∧ w'.ownsRow W.heap.size 5 1 v 64 ((supOf l).enc.map bv)) ∧ Below W.heap.size W w') ∨
          (¬ (supOf l).ok ∧ ∀ W, Calls Try.prog 10 #[(supOf l).val] W fun r w' => r = .returned (.tuple #[.slice none 0 0, .int .i64 1]) ∧ Below W.heap.size W w') := by
        by_cases h : (supOf l).ok
        · exact .inl ⟨h, refEncS_yes _ h hlg⟩
        · exact .inr ⟨h, refEncS_no _ h⟩
      have HVAL := Lib.hid hval
      rw [hval] at henc
      clear hx hsx h7 hA hb0 hr0 fw hL hlc hx6 hx10 hx14 hx18 hx22 hy5 hval hlg
      go_enter Try.func12, Try.ntmps12
      go_wp2_with fail
      rw [← hW0]
      refine (f60 _ HA.out).mono ?_
      rintro r w1 ⟨rfl, hb1⟩
      go_wp2_with fail
      refine (hsum _ (HA.out.below' hb1 hB0)).mono ?_
      rintro r w' ⟨rfl, rfl⟩
      clear hW0 f60 hsum
      go_wp2_with fail
      refine (f6 _ (HA.out.below' hb1 hB0)).mono ?_
      rintro r w2 ⟨rfl, hb2⟩
      replace hb2 := hb1.trans (hb2.mono hb1.size)
      clear hb1
      go_wp2_with fail
      refine (f10 _ (HA.out.below' hb2 hB0)).mono ?_
      rintro r w3 ⟨rfl, hb3⟩
      replace hb3 := hb2.trans (hb3.mono hb2.size)
      clear hb2
      go_wp2_with fail
      refine (f14 _ (HA.out.below' hb3 hB0)).mono ?_
      rintro r w4 ⟨rfl, hb4⟩
      replace hb4 := hb3.trans (hb4.mono hb3.size)
      clear hb3
      go_wp2_with fail
      refine (f18 _ (HA.out.below' hb4 hB0)).mono ?_
      rintro r w5 ⟨rfl, hb5⟩
      replace hb5 := hb4.trans (hb5.mono hb4.size)
      clear hb4
      go_wp2_with fail
      refine (f22 _ (HA.out.below' hb5 hB0)).mono ?_
      rintro r w6 ⟨rfl, hb6⟩
      replace hb6 := hb5.trans (hb6.mono hb5.size)
      clear hb5
      have hc6 := hcell w6 (HA.out.below' hb6 hB0)
      clear hcell f6 f10 f14 f18 f22
      go_wp2_with fail
      obtain ⟨W6, hW6⟩ : ∃ W, W = w6.alloc (.cells #[.int .u64 (x6 + x10 * 4294967296), .int .i64 y5, .int .u32 x14, .int .i64 x18, .int .u32 x22] 25) := ⟨_, rfl⟩
      have hb7 : Below W0.heap.size W0 W6 := by rw [hW6]; exact hb6.alloc hb6.size _
      have hr6 : Row W6 w6.heap.size 25 #[.int .u64 (x6 + x10 * 4294967296), .int .i64 y5, .int .u32 x14, .int .i64 x18, .int .u32 x22] := by rw [hW6]; exact row_new w6 _ _
      rw [← hW6]
      have hlt6 := hr6.lt
      clear hW6 hb6 hc6
      rcases henc with ⟨hok, he⟩ | ⟨hok, he⟩
      · refine (he _).mono ?_
        rintro r w7 ⟨⟨v, rfl, hown⟩, hb8⟩
        obtain ⟨A', c', rfl, hh, _⟩ := Has.of_own hown
        have e1 := str_has w7 A' 64 c' _ _ hh
        have hr7 := hr6.below hb8 hlt6
        replace hb8 := hb7.trans (hb8.mono hb7.size)
        have e2 := str_has w7 (some ⟨b, off, none⟩) 64 cap _ _ (HA.out.below' hb8 hB0)
        have hr8 := HR0.out.below hb8 hlt0
        clear hown hh hb7 hr6 he
        by_cases h6 : (supOf l).enc = l
        · have HD : Hid (serr l = 0) := Lib.hid (serr_0 HLEN.out HOK1.out ⟨hok, h6⟩)
          have hcmp := bs_eq h6
          have hcmp2 : ((bs (supOf l).enc).toList != (bs l).toList) = false := by rw [bne, hcmp]; rfl
          clear h6 hok
          go_wp2_with (first
            | (refine wpList_load_sup rfl _ rfl w6.heap.size (by exact rfl) _ hr7 rfl ?_)
            | (refine wpList_store_arr _ rfl rfl _ _ _ rfl w.heap.size (by exact rfl) #[.int .u64 (x6 + x10 * 4294967296), .int .i64 y5, .int .u32 x14, .int .i64 x18, .int .u32 x22] (by exact rfl) _ _ hr8 supSize rfl (sup_one _ _ _ _ _) ?_; intro w9 hr9 hg9))
          refine ret_sup _ _ rfl _ rfl _ hr9 rfl _ rfl rfl ?_
          refine ⟨?_, below_row (HB0.out.trans (hb8.mono HB0.out.size)) hg9 (Nat.le_refl _) (Nat.le_refl _)⟩
          rw [sgot_yes HD.out, HVAL.out, HD.out]
          rfl
        · have HD : Hid (serr l = 6) := Lib.hid (serr_6 HLEN.out HOK1.out (fun h => h6 h.2))
          have hcmp := bs_ne h6
          have hcmp2 : ((bs (supOf l).enc).toList != (bs l).toList) = true := by rw [bne, hcmp]; rfl
          clear h6 hok
          go_wp2_with (refine wpList_store_arr _ rfl rfl _ _ _ rfl w.heap.size (by exact rfl) #[.int .u64 0, .int .i64 0, .int .u32 0, .int .i64 0, .int .u32 0] (by exact rfl) _ _ hr8 supSize rfl (sup_one _ _ _ _ _) ?_; intro w9 hr9 hg9)
          refine ret_sup _ _ rfl _ rfl _ hr9 rfl _ rfl rfl ?_
          exact SDecP.no 6 HD (by decide) (below_row (HB0.out.trans (hb8.mono HB0.out.size)) hg9 (Nat.le_refl _) (Nat.le_refl _))
      · have HD : Hid (serr l = 6) := Lib.hid (serr_6 HLEN.out HOK1.out (fun h => hok h.1))
        refine (he _).mono ?_
        rintro r w7 ⟨rfl, hb8⟩
        replace hb8 := hb7.trans (hb8.mono hb7.size)
        have hr8 := HR0.out.below hb8 hlt0
        clear hb7 hr6 he hok
        go_wp2_with (refine wpList_store_arr _ rfl rfl _ _ _ rfl w.heap.size (by exact rfl) #[.int .u64 0, .int .i64 0, .int .u32 0, .int .i64 0, .int .u32 0] (by exact rfl) _ _ hr8 supSize rfl (sup_one _ _ _ _ _) ?_; intro w9 hr9 hg9)
        refine ret_sup _ _ rfl _ rfl _ hr9 rfl _ rfl rfl ?_
        exact SDecP.no 6 HD (by decide) (below_row (HB0.out.trans (hb8.mono HB0.out.size)) hg9 (Nat.le_refl _) (Nat.le_refl _))
    · have HD : Hid (serr l = 7) := Lib.hid (serr_7 hL h7)
      obtain ⟨x, hx⟩ : ∃ x, x = nv (wordB (l.drop 60)) := ⟨_, rfl⟩
      obtain ⟨y, hy⟩ : ∃ y, y = nv (crcSum (l.take 60)) := ⟨_, rfl⟩
      have hne : (x != y) = true := by rw [hx, hy]; simp only [bne_iff_ne, ne_eq]; exact fun e => h7 (nv_inj e)
      rw [← hx] at f60
      rw [← hy] at hsum
      clear hx hy h7 hA hb0 hr0 fw hL hlc
      go_enter Try.func12, Try.ntmps12
      go_wp2_with fail
      rw [← hW0]
      refine (f60 _ HA.out).mono ?_
      rintro r w1 ⟨rfl, hb1⟩
      go_wp2_with fail
      refine (hsum _ (HA.out.below' hb1 hB0)).mono ?_
      rintro r w' ⟨rfl, rfl⟩
      have hr1 := HR0.out.below hb1 hlt0
      go_wp2_with (refine wpList_store_arr _ rfl rfl _ _ _ rfl w.heap.size (by exact rfl) #[.int .u64 0, .int .i64 0, .int .u32 0, .int .i64 0, .int .u32 0] (by exact rfl) _ _ hr1 supSize rfl (sup_one _ _ _ _ _) ?_; intro w2 hr2 hg2)
      refine ret_sup _ _ rfl _ rfl _ hr2 rfl _ rfl rfl ?_
      exact SDecP.no 7 HD (by decide) (below_row (HB0.out.trans (hb1.mono HB0.out.size)) hg2 (Nat.le_refl _) (Nat.le_refl _))
  · have HD : Hid (serr l = 5) := Lib.hid (serr_5 (by omega))
    have h1' : ((len : Int) != 64) = true := by simp; omega
    clear hL hA
    go_enter Try.func12, Try.ntmps12
    go_wp2
    refine ret_sup _ _ rfl _ rfl _ (row_new w _ _) rfl _ rfl rfl ?_
    exact SDecP.no 5 HD (by decide) ((Below.refl _ _).alloc (Nat.le_refl _) _)

end Go.Proofs.Ytdahnkampjkelaa
