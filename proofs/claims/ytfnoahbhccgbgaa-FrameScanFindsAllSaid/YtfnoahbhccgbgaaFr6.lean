/-
  Contract of the helper Lists of the statements (package hstsstorekeep); the fixed examples of the statements of layer 7 (awake) hold.
-/
import Derived.Test.YtfnoahbhccgbgaaFr5
import Derived.Test.YtfnoahbhccgbgaaSaid
import Derived.Lib.SlBytesConst
namespace Go.Proofs.Ytfnoahbhccgbgaa
open Go.RowKit

def listsB (xs ys : List (List UInt8)) : Bool := decide (xs = ys)
theorem listsB_len (xs ys : List (List UInt8)) (h : xs.length ≠ ys.length) : listsB xs ys = false := by
  unfold listsB; rw [decide_eq_false_iff_not]; intro e; exact h (by rw [e])
theorem listsB_at (xs ys : List (List UInt8)) (k : Nat) (h : k < xs.length) (h' : k < ys.length) (hn : xs[k] ≠ ys[k]) : listsB xs ys = false := by
  unfold listsB; rw [decide_eq_false_iff_not]; intro e; subst e; exact hn rfl
theorem listsB_refl (xs : List (List UInt8)) : listsB xs xs = true := by simp [listsB]
theorem take_succ_eqL {xs ys : List (List UInt8)} {k : Nat} (h : k < xs.length) (h' : k < ys.length) (ht : xs.take k = ys.take k) (he : xs[k] = ys[k]) : xs.take (k + 1) = ys.take (k + 1) := by
  rw [List.take_succ_eq_append_getElem h, List.take_succ_eq_append_getElem h', ht, he]
theorem beq_bs_true {a b : List UInt8} (h : a = b) : ((bs a).toList == (bs b).toList) = true := by rw [h]; simp
theorem beq_bs_false {a b : List UInt8} (h : a ≠ b) : ((bs a).toList == (bs b).toList) = false := by
  rw [beq_eq_false_iff_ne, toList_ls, toList_ls, ls_bs, ls_bs]
  exact h
/-- Slices of bytes, wherever they lie. -/
def ManyH (w : World) (vs : List Value) (ps : List (List UInt8)) : Prop :=
  vs.length = ps.length ∧ ∀ (i : Nat) (v : Value) (p : List UInt8), vs[i]? = some v → ps[i]? = some p → ∃ A c, v = .slice A p.length c ∧ (A = none → c = 0) ∧ p.length ≤ c ∧ Has w w.heap.size A p.length (p.map bv)
theorem Many.weak {w : World} {vs : List Value} {ps : List (List UInt8)} (h : Many w vs ps) : ManyH w vs ps :=
  ⟨h.1, fun i v p h1 h2 => by
    obtain ⟨A, c, e, g1, g2, g3, _⟩ := h.2 i v p h1 h2
    exact ⟨A, c, e, g1, g2, g3⟩⟩
theorem ManyH.below {w w' : World} {vs : List Value} {ps : List (List UInt8)} (h : ManyH w vs ps) (hb : Below w.heap.size w w') : ManyH w' vs ps :=
  ⟨h.1, fun i v p h1 h2 => by
    obtain ⟨A, c, e, g1, g2, g3⟩ := h.2 i v p h1 h2
    exact ⟨A, c, e, g1, g2, (g3.below hb).more hb.size⟩⟩
theorem ManyH.take {w : World} {vs : List Value} {ps qs : List (List UInt8)} (h : ManyH w vs (ps ++ qs)) : ManyH w (vs.take ps.length) ps := by
  refine ⟨by have := h.1; simp at this ⊢; omega, fun i v p h1 h2 => ?_⟩
  have hi := (List.getElem?_eq_some_iff.1 h2).1
  rw [List.getElem?_take_of_lt hi] at h1
  exact h.2 i v p h1 (by rw [List.getElem?_append_left hi]; exact h2)
/-- The k-th of many slices: its value lies in its cell, and string(..) of it. -/
theorem ManyH.at_ {w : World} {B n : Nat} {A : Option Addr} {vs : List Value} {ps : List (List UInt8)} (h : ManyH w vs ps) (hA : Has w B A n vs) {k : Nat} (hk : k < ps.length) :
    ∃ b off X c, A = some ⟨b, off, none⟩ ∧ b < B ∧ w.cell? ⟨b, off + k, none⟩ = some (.slice X ps[k].length c) ∧ (X = none → c = 0) ∧ Has w w.heap.size X ps[k].length (ps[k].map bv) ∧
      ∀ q, (convert 23 9 (.slice X ps[k].length c)).run Try.prog (w.drewN q) = .ok (.string (bs ps[k])) (w.drewN q) := by
  have hkv : k < vs.length := by rw [h.1]; exact hk
  have hn : k < n := by rw [← hA.1]; exact hkv
  obtain ⟨b, off, e, hb, hc⟩ := hA.at_ hn
  obtain ⟨X, c, hv, h1, _, h3⟩ := h.2 k vs[k] ps[k] (List.getElem?_eq_getElem hkv) (List.getElem?_eq_getElem hk)
  rw [hv] at hc
  exact ⟨b, off, X, c, e, hb, hc, h1, h3, fun q => str_has (w.drewN q) X _ c w.heap.size _ (h3.drewN q)⟩

set_option maxHeartbeats 1000000 in
theorem listsH_any (A1 A2 : Option Addr) (n1 n2 c1 c2 : Nat) (xs ys : List (List UInt8)) (vs us : List Value) (B : Nat) (w : World) (hA1 : Has w B A1 n1 vs) (hA2 : Has w B A2 n2 us) (hM1 : ManyH w vs xs) (hM2 : ManyH w us ys)
    (hB : B ≤ w.heap.size) (hl1 : n1 ≤ 1000000000) (hl2 : n2 ≤ 1000000000) :
    Calls Try.prog 19 #[.slice A1 n1 c1, .slice A2 n2 c2] w fun e w' => e = .returned (.bool (listsB xs ys)) ∧ Below w.heap.size w w' := by
  have HL1 : Hid (xs.length = n1) := by show _ = _; rw [← hM1.1]; exact hA1.1
  have HL2 : Hid (ys.length = n2) := by show _ = _; rw [← hM2.1]; exact hA2.1
  have HA1 := Lib.hid hA1
  have HA2 := Lib.hid hA2
  have HM1 := Lib.hid hM1
  have HM2 := Lib.hid hM2
  clear hA1 hA2 hM1 hM2
  by_cases hsz : n1 = n2
  · have hsz' : ((n1 : Int) != (n2 : Int)) = false := by simp [hsz]
    have HZ := Lib.hid hsz
    clear hsz
    go_enter Try.func19, Try.ntmps19
    go_wp2
    go_loopw [5] (fun i wr => ∃ k : Nat, k ≤ n1 ∧ i = .int .i64 k ∧ Below w.heap.size w wr ∧ xs.take k = ys.take k) (fun i _ => n1 - (intOf i).toNat)
    case atStart => exact ⟨0, Nat.zero_le _, rfl, Below.refl _ _, rfl⟩
    case round =>
      obtain ⟨k, hk, rfl, hbw, htk⟩ := hrel
      have HT := Lib.hid htk
      clear htk
      by_cases hlt : k < n1
      · have hk1 : k < xs.length := by rw [HL1.out]; exact hlt
        have hk2 : k < ys.length := by rw [HL2.out, ← HZ.out]; exact hlt
        have hlt2 : k < n2 := by rw [← HZ.out]; exact hlt
        obtain ⟨b1, o1, X1, d1, rfl, hb1, hc1, _, _, hr1⟩ := (HM1.out.below hbw).at_ (HA1.out.below' hbw hB) hk1
        obtain ⟨b2, o2, X2, d2, rfl, hb2, hc2, _, _, hr2⟩ := (HM2.out.below hbw).at_ (HA2.out.below' hbw hB) hk2
        obtain ⟨x, hx⟩ : ∃ x, x = xs[k] := ⟨_, rfl⟩
        obtain ⟨y, hy⟩ : ∃ y, y = ys[k] := ⟨_, rfl⟩
        rw [← hx] at hc1 hr1
        rw [← hy] at hc2 hr2
        by_cases he : x = y
        · have HN := Lib.hid (take_succ_eqL hk1 hk2 HT.out (by rw [← hx, ← hy]; exact he))
          have hbe := beq_bs_true he
          clear he hx hy
          go_wp2
          go_quiet (fail)
          go_wp2
          go_roundw
          case rel => exact ⟨k + 1, by omega, by go_num, below_drewN hbw _, HN.out⟩
          case measure => simp [intOf]; omega
        · have HF := Lib.hid (listsB_at xs ys k hk1 hk2 (by rw [← hx, ← hy]; exact he))
          have hbe := beq_bs_false he
          clear he hx hy
          go_wp2
          go_quiet (fail)
          go_wp2
          go_ret
          exact ⟨ret_bool HF.out.symm, below_drewN hbw _⟩
      · have HF : Hid (listsB xs ys = true) := by
          have h := HT.out
          rw [List.take_of_length_le (by rw [HL1.out]; omega), List.take_of_length_le (by rw [HL2.out, ← HZ.out]; omega)] at h
          show _ = _
          unfold listsB
          exact decide_eq_true h
        go_wp2
        go_ret
        exact ⟨ret_bool HF.out.symm, hbw⟩
  · have hsz' : ((n1 : Int) != (n2 : Int)) = true := by simp; omega
    have HF := Lib.hid (listsB_len xs ys (by rw [HL1.out, HL2.out]; exact hsz))
    clear hsz
    go_enter Try.func19, Try.ntmps19
    go_wp2
    go_ret
    exact ⟨ret_bool HF.out.symm, Below.refl _ _⟩

theorem lists_any (A1 A2 : Option Addr) (n1 n2 c1 c2 : Nat) (xs ys : List (List UInt8)) (vs us : List Value) (B : Nat) (w : World) (hA1 : Has w B A1 n1 vs) (hA2 : Has w B A2 n2 us) (hM1 : Many w vs xs) (hM2 : Many w us ys)
    (hB : B ≤ w.heap.size) (hl1 : n1 ≤ 1000000000) (hl2 : n2 ≤ 1000000000) :
    Calls Try.prog 19 #[.slice A1 n1 c1, .slice A2 n2 c2] w fun e w' => e = .returned (.bool (listsB xs ys)) ∧ Below w.heap.size w w' :=
  listsH_any A1 A2 n1 n2 c1 c2 xs ys vs us B w hA1 hA2 hM1.weak hM2.weak hB hl1 hl2

theorem nv_one : nv 1#32 = 1 := by unfold nv; rfl
theorem ex_scan : scanB ((frameB 1#32 0#32 [120] ++ [0, 0, 0]).length + 1) (frameB 1#32 0#32 [120] ++ [0, 0, 0]) 1#32 0 = ([[120]], 15) := by
  have h := scanB_frames 1#32 [0, 0, 0] [[120]] 19 0 (by decide) (by decide)
  have e1 : framesB 1#32 0 [[120]] = frameB 1#32 0#32 [120] := by
    show frameB 1#32 (sq 0) [120] ++ [] = _
    rw [List.append_nil]; rfl
  have e2 : (frameB 1#32 0#32 [120] ++ [0, 0, 0]).length + 1 = 19 := by rw [List.length_append, frameB_length]; rfl
  rw [scanB_no (l := [0, 0, 0]) (by rw [derr_1 (by decide)]; decide), e1] at h
  rw [e2, h, frameB_length]
  rfl
theorem ex_zero : derr (List.replicate 14 0) 0#32 0#32 = 7 := by decide +kernel
theorem has_zeros {w : World} {g n : Nat} (h : Row w g 5 (zeros n)) : Has w w.heap.size (some ⟨g, 0, none⟩) n ((List.replicate n (0 : UInt8)).map bv) := by
  have hz : zeros n = ((List.replicate n (0 : UInt8)).map bv).toArray := by simp [zeros, bv]
  unfold Row at h
  rw [hz] at h
  exact has_row8 h (by simp)

set_option maxHeartbeats 2000000 in
theorem awake_any (w : World) : Calls Try.prog 8 #[] w (Yes w) := by
  obtain ⟨i5, hi5, hz0, hz1, hz2⟩ := info_parts infoU8
  have hc1 := Lib.run_convert_bytes_const (P := Try.prog) w 23 5 #[.int .u8 120] 1 1 tyBs tyU8
  go_enter Try.func8, Try.ntmps8
  go_wp2_with fail
  have henc := encode_yes 1#32 0#32 (some ⟨w.heap.size, 0, none⟩) 1 1 (w.heap.size + 1) [120] (w.alloc (.cells #[.int .u8 120] 5 (1, 2))) (Has.laid w _ _ _ 1 _ (by rfl) rfl) (by intro e; cases e) (by decide) (by show w.heap.size + 1 ≤ (w.heap.push _).size; simp)
  simp only [nv_one, nv_zero] at henc
  refine henc.mono ?_
  rintro r w1 ⟨⟨v1, rfl, hown1⟩, hb1⟩
  clear hc1 henc
  have hb := (Below.refl w.heap.size w).alloc (Nat.le_refl _) (.cells #[.int .u8 120] 5 (1, 2))
  generalize w.alloc (.cells #[.int .u8 120] 5 (1, 2)) = w0 at *
  replace hown1 : w1.ownsRow w0.heap.size 5 1 v1 15 ((frameB 1#32 0#32 [120]).map bv) := hown1
  obtain ⟨A1, c1, rfl, _, _⟩ := Has.of_own hown1
  obtain ⟨F, hF⟩ : ∃ F, F = frameB 1#32 0#32 [120] := ⟨_, rfl⟩
  have hx1 := ex_scan
  rw [← hF] at hown1 hx1
  clear hF
  have hX2 := Lib.hid (show ((scanB ((F ++ [0, 0, 0]).length + 1) (F ++ [0, 0, 0]) 1#32 0).2 : Int) = 15 by rw [hx1]; rfl)
  have hX1 := Lib.hid (show (scanB ((F ++ [0, 0, 0]).length + 1) (F ++ [0, 0, 0]) 1#32 0).1.length = 1 by rw [hx1]; rfl)
  clear hx1
  go_wp2_with (at_builtin; refine wpList_app_has _ rfl _ _ 23 rfl w0.heap.size 5 i5 (.int .u8 0) 1 tyBs hi5 hz0 hz1 hz2 rfl _ _ _ (by exact rfl) (hown1.alloc _) _ 3 3 _ ([0, 0, 0].map bv) (by exact rfl) (by intro e; cases e) (Has.laid w1 _ _ _ 3 _ (by rfl) rfl) (one_bytes _) (by unfold maxLen; omega) (by omega) (hb1.alloc hb1.size _) (Nat.le_refl _) ?_; intro v2 w2 hown2 hb2 hgr; rw [← List.map_append] at hown2; replace hown2 : w2.ownsRow w0.heap.size 5 1 v2 18 ((F ++ [0, 0, 0]).map bv) := hown2; obtain ⟨A2, c2, rfl, h2, hc2⟩ := Has.of_own hown2)
  have hsc := scan_all 1#32 A2 18 c2 _ (F ++ [0, 0, 0]) w2 h2 (of_own_none hown2) hc2 (by decide) (Nat.le_refl _)
  rw [nv_one] at hsc
  refine hsc.mono ?_
  rintro r w3 ⟨⟨v3, vs, rfl, hown3, _⟩, hb3⟩
  rw [hX2.out]
  rw [hX1.out] at hown3
  obtain ⟨A3, c3, rfl, _, _⟩ := Has.of_own hown3
  replace hb3 := hb2.trans (hb3.mono hb2.size)
  clear hown1 hown2 hown3 hsc hb1 hb2 hX1 hX2
  go_wp2_with (at_make; refine wpList_make_bytes _ rfl _ _ (by exact rfl) 14 (by exact rfl) (by exact rfl) (by omega) ?_; intro w4 g hg0 hg1 hrow hgr)
  have hb4 : Below w0.heap.size w0 w4 := hb3.grown hgr hb3.size (fun k e => by cases e)
  have hdec := decode_any 0#32 0#32 (some ⟨g, 0, none⟩) 14 14 _ (List.replicate 14 0) w4 (has_zeros hrow) (Nat.le_refl _) (by decide) (Nat.le_refl _)
  rw [nv_zero] at hdec
  refine hdec.mono ?_
  rintro r w5 ⟨⟨P, c, rfl, _, _, _, _⟩, hb5⟩
  rw [show ((derr (List.replicate 14 0) 0#32 0#32 : Nat) : Int) = 7 by rw [ex_zero]; rfl]
  generalize (dpl (List.replicate 14 0) 0#32 0#32).length = p5
  generalize dn (List.replicate 14 0) 0#32 0#32 = n5
  replace hb5 := hb4.trans (hb5.mono hb4.size)
  have hs := size_any 1 w5
  rw [szB_yes (by decide) (by decide)] at hs
  clear hdec
  go_wp2_with fail
  refine hs.mono ?_
  rintro r w' ⟨rfl, rfl⟩
  go_wp2
  go_ret
  exact ⟨rfl, hb.trans (hb5.mono hb.size)⟩

end Go.Proofs.Ytfnoahbhccgbgaa
