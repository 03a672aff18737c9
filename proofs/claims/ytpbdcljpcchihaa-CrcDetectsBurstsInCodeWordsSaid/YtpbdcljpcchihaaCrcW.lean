/-
  The walk of CrcDetectsBurstsInCodeWords: it returns true.
-/
import Derived.Test.YtpbdcljpcchihaaCrcF
import Derived.Test.YtpbdcljpcchihaaCrcD
namespace Go.Proofs.Ytpbdcljpcchihaa
open Go.RowKit

theorem four_of (l : List UInt8) (n : Nat) (h : l.length = n + 4) : ∃ p q r s, l = l.take n ++ [p, q, r, s] ∧ l.drop n = [p, q, r, s] := by
  have hd : (l.drop n).length = 4 := by simp; omega
  match hq : l.drop n, hd with
  | [p, q, r, s], _ => exact ⟨p, q, r, s, by rw [← hq, List.take_append_drop], rfl⟩

theorem word_bool (l : List UInt8) (a pat : Nat) (p q r s : UInt8) (n : Nat) (hn : l.length = n) (F : List UInt8) (hF : F = flips (l ++ fixedB (crcSum l)) a pat 32) (h : F = F.take n ++ [p, q, r, s]) :
    ((nv (crcSum (F.take n)) == nv (fixedW p q r s)) == eqL F (l ++ fixedB (crcSum l))) = true := by
  rw [nv_beq]
  unfold eqL
  have hb := burst_word l a pat (F.take n) p q r s (by rw [← hF]; exact h)
  rw [← hF] at hb
  by_cases he : F = l ++ fixedB (crcSum l)
  · rw [decide_eq_true he, decide_eq_true (hb.2 he)]; rfl
  · rw [decide_eq_false he, decide_eq_false (fun e => he (hb.1 e))]; rfl

theorem Has.drop {w : World} {B n : Nat} {A : Option Addr} {g : Nat} {xs : List Value} (h : Has w B (some ⟨g, 0, none⟩) n xs) (m k : Nat) (hm : m + k = n) (hA : A = some ⟨g, m, none⟩) : Has w B A k (xs.drop m) :=
  ⟨by have := h.1; simp; omega, fun h0 => by
    obtain ⟨b, off, e, hb, hc⟩ := h.2 (by omega)
    injection e with e
    injection e with e1 e2 _
    subst e1 e2
    refine ⟨g, m, hA, hb, fun j hj => ?_⟩
    have := hc (m + j) (by simp at hj; omega)
    rw [Nat.zero_add] at this
    rw [this]
    simp⟩

set_option maxHeartbeats 4000000 in
theorem crcWords_walk (A : Option Addr) (len cap : Nat) (zs : List Int) (at_ s : Int) (w : World) (h : In8 w A len cap zs) (ha : (Lit.int .i64 at_).wf = true) (hs : (Lit.int .u32 s).wf = true) :
    Calls Try.prog 7 #[.slice A len cap, .int .i64 at_, .int .u32 s] w (Yes w) := by
  obtain ⟨l, hl⟩ := arg8_of h
  obtain ⟨p, rfl⟩ := w32_of hs
  have hab := bounds_i64 ha
  have HA := Lib.hid hl
  clear hl h ha hs
  by_cases hlen : len ≤ 2000
  · obtain ⟨i5, hi5, hz0, hz1, hz2⟩ := info_parts infoU8
    have HL := Lib.hid HA.out.len
    have hlen' : (len : Int) ≤ 2000 := by omega
    go_enter Try.func7, Try.ntmps7
    go_wp2_with fail
    refine (ownBytes_any A len cap _ l _ HA.out.1 HA.out.2.2.2 (by omega) (Nat.le_refl _)).mono ?_
    rintro e w1 ⟨⟨v, rfl, hown⟩, hb⟩
    have h2 := HA.out.1.below hb
    go_wp2_with fail
    refine (sum_any A len cap _ l w1 h2 (by omega)).mono ?_
    rintro e w' ⟨rfl, rfl⟩
    go_wp2_with fail
    refine (fixed_any (crcSum l) w1).mono ?_
    rintro e w2 ⟨⟨g2, rfl, hf⟩, hb2⟩
    have hown2 := own_below hown hb2
    have hb' := hb.trans (hb2.mono hb.size)
    clear hown h2 hb hb2
    obtain ⟨word, hword⟩ : ∃ m, m = l ++ fixedB (crcSum l) := ⟨_, rfl⟩
    have HW := Lib.hid hword
    obtain ⟨N, hN⟩ : ∃ N, N = len + 4 := ⟨_, rfl⟩
    have HN := Lib.hid hN
    have hNb : N ≤ 2004 := by omega
    have hN0 : 0 < N := by omega
    have hlN : len ≤ N := by omega
    go_wp2_with (at_builtin; refine wpList_app_has _ rfl _ _ 22 rfl w.heap.size 5 i5 (.int .u8 0) 1 tyBs hi5 hz0 hz1 hz2 rfl _ _ _ (by exact rfl) hown2 _ 4 4 _ ((fixedB (crcSum l)).map bv) (by exact rfl) (by intro e; cases e) hf (one_bytes _) (by unfold maxLen; omega) (by omega) hb' (Nat.le_refl _) ?_; intro v3 w3 hown3 hb3 _; rw [← List.map_append, ← hword, ← hN] at hown3; clear hword hN; obtain ⟨A1, c1, rfl, h1, hNc⟩ := Has.of_own hown3)
    clear hown2 hb' hf
    have m1 := of_own_none hown3
    have LW := Lib.hid (show word.length = N by simpa using h1.1)
    have hb' := hb3
    clear hown3 hb3
    refine (mod_any at_ (8 * (N : Int)) (by omega) (by omega) (by omega) (by omega) _).mono ?_
    rintro e w' ⟨rfl, rfl⟩
    obtain ⟨a, ham⟩ : ∃ a : Nat, at_ % (8 * (N : Int)) = (a : Int) := ⟨(at_ % (8 * (N : Int))).toNat, by have := Int.emod_nonneg at_ (show (8 * (N : Int)) ≠ 0 by omega); omega⟩
    have hab2 : a ≤ 1000000 := by have := Int.emod_lt_of_pos at_ (show (0 : Int) < 8 * (N : Int) by omega); omega
    rw [ham]
    clear ham
    go_wp2_with fail
    refine (flip_any A1 N c1 _ word a p w3 h1 m1 (by omega) hN0 hab2 (Nat.le_refl _)).mono ?_
    rintro e w4 ⟨⟨g, c, rfl, hO⟩, hb4⟩
    have hf := hO.has
    have hword := h1.below hb4
    have hl4 := HA.out.1.below (hb'.trans (hb4.mono hb'.size))
    obtain ⟨F, hF⟩ : ∃ F, F = flips word a p.toNat 32 := ⟨_, rfl⟩
    rw [← hF] at hf
    have hFl : F.length = len + 4 := by have h9 := hf.1; rw [List.length_map] at h9; have := HN.out; omega
    obtain ⟨q0, q1, q2, q3, hcut, hdrop⟩ := four_of F len hFl
    have hfin := word_bool l a p.toNat q0 q1 q2 q3 len HL.out F (by rw [hF, HW.out]) hcut
    rw [← HW.out] at hfin
    have hNc2 : N ≤ c := by obtain ⟨cur, _, _, hnc, _⟩ := hO; exact hnc
    have hne : ¬ c = len := by have := HN.out; omega
    have hlc : len ≤ c := by omega
    have h4 : N - len = 4 := by have := HN.out; omega
    clear hO hF hFl h1
    have hdr := Has.drop hf len 4 HN.out.symm rfl
    rw [← List.map_drop, hdrop] at hdr
    have htk := hf.take len hlN
    rw [← List.map_take] at htk
    clear hdrop hcut
    go_wp2_with fail
    refine (decodeFixed_any _ (c - len) _ q0 q1 q2 q3 w4 hdr).mono ?_
    rintro e w5 ⟨rfl, hb5⟩
    replace htk := htk.below hb5
    replace hf := hf.below hb5
    replace hword := hword.below' hb5 hb4.size
    go_wp2_with fail
    refine (sum_any _ len c _ (F.take len) w5 htk (by omega)).mono ?_
    rintro e w' ⟨rfl, rfl⟩
    go_wp2_with fail
    refine (bytes_any _ A1 N c N c1 _ F word w5 hf (hword.more hb4.size)).mono ?_
    rintro e w' ⟨rfl, rfl⟩
    go_wp2_with fail
    refine (awake2_any _).mono ?_
    rintro e w6 ⟨rfl, hb6⟩
    go_wp2
    go_ret
    exact ⟨rfl, (hb'.trans (hb4.mono hb'.size)).trans ((hb5.mono (Nat.le_trans hb'.size hb4.size)).trans (hb6.mono (Nat.le_trans (Nat.le_trans hb'.size hb4.size) hb5.size)))⟩
  · have hlen' : ¬ (len : Int) ≤ 2000 := by omega
    go_enter Try.func7, Try.ntmps7
    go_wp2_with fail
    refine (awake2_any _).mono ?_
    rintro e w2 ⟨rfl, hb2⟩
    go_wp2
    go_ret
    exact ⟨rfl, hb2⟩

end Go.Proofs.Ytpbdcljpcchihaa
