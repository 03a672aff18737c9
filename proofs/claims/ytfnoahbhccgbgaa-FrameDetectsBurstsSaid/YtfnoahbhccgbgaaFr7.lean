/-
  The walks of FrameEncodeMatchesSpec, FrameDecodeMatchesSpec and FrameScanMatchesSpec: each returns true.
-/
import Derived.Test.YtfnoahbhccgbgaaFr6
namespace Go.Proofs.Ytfnoahbhccgbgaa
open Go.RowKit

theorem w32_of {s : Int} (h : (Lit.int .u32 s).wf = true) : ∃ x, s = nv x := by
  have := bounds_u32 h
  exact nv_of s (by omega) (by omega)

set_option maxHeartbeats 4000000 in
theorem walkEnc (ep sq' : Int) (A : Option Addr) (len cap : Nat) (zs : List Int) (w : World) (he : (Lit.int .u32 ep).wf = true) (hs : (Lit.int .u32 sq').wf = true) (h : In8 w A len cap zs) :
    Calls Try.prog 3 #[.int .u32 ep, .int .u32 sq', .slice A len cap] w (Yes w) := by
  obtain ⟨l, hl⟩ := arg8_of h
  obtain ⟨e, rfl⟩ := w32_of he
  obtain ⟨q, rfl⟩ := w32_of hs
  have HA := Lib.hid hl
  clear hl h he hs
  have hge := nv_ge e
  have hlt := nv_lt e
  by_cases hlen : len ≤ 2000
  · have hlen' : ¬ (2000 : Int) < (len : Int) := by omega
    have h0 := eqL_refl []
    have h1e := eqL_refl l
    have hF := eqL_refl (frameB e q l)
    go_enter Try.func3, Try.ntmps3
    go_wp2_with fail
    refine (ownBytes_any A len cap _ l _ HA.out.1 HA.out.2.2.2 (by omega) (Nat.le_refl _)).mono ?_
    rintro r w1 ⟨⟨v, rfl, hown⟩, hb⟩
    obtain ⟨A1, c1, rfl, h1, hc1⟩ := Has.of_own hown
    have hA1 := of_own_none hown
    clear hown
    have h2 := HA.out.1.below hb
    by_cases hbig : 1024 < len
    · go_wp2_with fail
      refine (encode_no e q A1 len c1 w1 hbig (by omega)).mono ?_
      rintro r w' ⟨rfl, rfl⟩
      go_wp2_with fail
      refine (refEncode_no e q A len cap w1 hbig (by omega)).mono ?_
      rintro r w' ⟨rfl, rfl⟩
      go_wp2_with fail
      refine (bytes_any none none 0 0 0 0 0 [] [] w1 (Has.nil _ _ _) (Has.nil _ _ _)).mono ?_
      rintro r w' ⟨rfl, rfl⟩
      go_wp2_with fail
      refine (bytes_any A1 A len c1 len cap _ l l w1 h1 (h2.more hb.size)).mono ?_
      rintro r w' ⟨rfl, rfl⟩
      go_wp2_with fail
      refine (size_any _ w1).mono ?_
      rintro r w' ⟨rfl, rfl⟩
      go_wp2_with fail
      refine (refSize_any _ w1).mono ?_
      rintro r w' ⟨rfl, rfl⟩
      go_wp2_with fail
      refine (size_any _ w1).mono ?_
      rintro r w' ⟨rfl, rfl⟩
      go_wp2_with fail
      refine (refSize_any _ w1).mono ?_
      rintro r w' ⟨rfl, rfl⟩
      go_wp2_with fail
      refine (awake_any w1).mono ?_
      rintro r w2 ⟨rfl, hb2⟩
      go_wp2
      go_ret
      exact ⟨rfl, hb.trans (hb2.mono hb.size)⟩
    · have hbig' : len ≤ 1024 := by omega
      go_wp2_with fail
      refine (encode_yes e q A1 len c1 _ l w1 h1 hA1 hbig' (Nat.le_refl _)).mono ?_
      rintro r w2 ⟨⟨v2, rfl, hown2⟩, hb2⟩
      obtain ⟨A2, c2, rfl, h3, _⟩ := Has.of_own hown2
      clear hown2
      have h1b := h1.below hb2
      have h2b := (h2.more hb.size).below hb2
      have hbb := hb.trans (hb2.mono hb.size)
      go_wp2_with fail
      refine (refEncode_yes e q A len cap _ l w2 h2b HA.out.2.2.2 hbig' hb2.size).mono ?_
      rintro r w3 ⟨⟨v3, rfl, hown3⟩, hb3⟩
      obtain ⟨A3, c3, rfl, h4, _⟩ := Has.of_own hown3
      clear hown3
      replace h3 := (h3.below hb3).more hb3.size
      replace h1b := (h1b.more hb2.size).below hb3
      replace h2b := (h2b.more hb2.size).below hb3
      replace hbb := hbb.trans (hb3.mono hbb.size)
      clear h1 h2 hb hb2 hb3
      go_wp2_with fail
      refine (bytes_any A2 A3 _ c2 _ c3 _ _ _ w3 h3 h4).mono ?_
      rintro r w' ⟨rfl, rfl⟩
      go_wp2_with fail
      refine (bytes_any A1 A len c1 len cap _ l l w3 h1b h2b).mono ?_
      rintro r w' ⟨rfl, rfl⟩
      go_wp2_with fail
      refine (size_any _ w3).mono ?_
      rintro r w' ⟨rfl, rfl⟩
      go_wp2_with fail
      refine (refSize_any _ w3).mono ?_
      rintro r w' ⟨rfl, rfl⟩
      go_wp2_with fail
      refine (size_any _ w3).mono ?_
      rintro r w' ⟨rfl, rfl⟩
      go_wp2_with fail
      refine (refSize_any _ w3).mono ?_
      rintro r w' ⟨rfl, rfl⟩
      go_wp2_with fail
      refine (awake_any w3).mono ?_
      rintro r w4 ⟨rfl, hb4⟩
      go_wp2
      go_ret
      exact ⟨rfl, hbb.trans (hb4.mono hbb.size)⟩
  · have hlen' : (2000 : Int) < (len : Int) := by omega
    go_enter Try.func3, Try.ntmps3
    go_wp2_with fail
    refine (awake_any w).mono ?_
    rintro r w2 ⟨rfl, hb2⟩
    go_wp2
    go_ret
    exact ⟨rfl, hb2⟩

set_option maxHeartbeats 4000000 in
theorem walkDec (A : Option Addr) (len cap : Nat) (zs : List Int) (ep sq' : Int) (w : World) (h : In8 w A len cap zs) (he : (Lit.int .u32 ep).wf = true) (hs : (Lit.int .u32 sq').wf = true) :
    Calls Try.prog 4 #[.slice A len cap, .int .u32 ep, .int .u32 sq'] w (Yes w) := by
  obtain ⟨l, hl⟩ := arg8_of h
  obtain ⟨e, rfl⟩ := w32_of he
  obtain ⟨q, rfl⟩ := w32_of hs
  have HA := Lib.hid hl
  clear hl h he hs
  by_cases hlen : len ≤ 3000
  · have hlen' : ¬ (3000 : Int) < (len : Int) := by omega
    obtain ⟨p, hp⟩ : ∃ p, p = dpl l e q := ⟨_, rfl⟩
    obtain ⟨n, hn⟩ : ∃ n : Int, n = (dn l e q : Int) := ⟨_, rfl⟩
    obtain ⟨x, hx⟩ : ∃ n : Int, n = (derr l e q : Int) := ⟨_, rfl⟩
    have HP : ∀ w r w', DecP w l e q r w' → (∃ P c, r = .returned (.tuple #[.slice P p.length c, .int .i64 n, .int .i64 x]) ∧ Has w' w'.heap.size P p.length (p.map bv)) ∧ Below w.heap.size w w' := by
      rintro w r w' ⟨⟨P, c, hr, hh, _⟩, hb⟩
      rw [hp, hn, hx]
      exact ⟨⟨P, c, hr, hh⟩, hb⟩
    have h0 := eqL_refl p
    clear hp hn hx
    go_enter Try.func4, Try.ntmps4
    go_wp2_with fail
    refine (decode_any e q A len cap _ l w HA.out.1 HA.out.2.1 (by omega) (Nat.le_refl _)).mono ?_
    intro r w1 hr
    obtain ⟨⟨P1, c1, rfl, h1⟩, hb⟩ := HP w r w1 hr
    clear hr
    go_wp2_with fail
    refine (refDecode_any e q A len cap _ l w1 (HA.out.1.below hb) HA.out.2.1 (by omega) hb.size).mono ?_
    intro r w2 hr
    obtain ⟨⟨P2, c2, rfl, h2⟩, hb2⟩ := HP w1 r w2 hr
    clear hr
    replace h1 := (h1.below hb2).more hb2.size
    replace hb := hb.trans (hb2.mono hb.size)
    clear hb2
    go_wp2_with fail
    refine (bytes_any P1 P2 _ c1 _ c2 _ p p w2 h1 h2).mono ?_
    rintro r w' ⟨rfl, rfl⟩
    go_wp2_with fail
    refine (awake_any w2).mono ?_
    rintro r w4 ⟨rfl, hb4⟩
    go_wp2
    go_ret
    exact ⟨rfl, hb.trans (hb4.mono hb.size)⟩
  · have hlen' : (3000 : Int) < (len : Int) := by omega
    go_enter Try.func4, Try.ntmps4
    go_wp2_with fail
    refine (awake_any w).mono ?_
    rintro r w2 ⟨rfl, hb2⟩
    go_wp2
    go_ret
    exact ⟨rfl, hb2⟩

set_option maxHeartbeats 4000000 in
theorem walkScan (A : Option Addr) (len cap : Nat) (zs : List Int) (ep : Int) (w : World) (h : In8 w A len cap zs) (he : (Lit.int .u32 ep).wf = true) :
    Calls Try.prog 5 #[.slice A len cap, .int .u32 ep] w (Yes w) := by
  obtain ⟨l, hl⟩ := arg8_of h
  obtain ⟨e, rfl⟩ := w32_of he
  have HA := Lib.hid hl
  clear hl h he
  by_cases hlen : len ≤ 5000
  · have hlen' : ¬ (5000 : Int) < (len : Int) := by omega
    obtain ⟨ps, hp⟩ : ∃ p, p = (scanB (l.length + 1) l e 0).1 := ⟨_, rfl⟩
    obtain ⟨n, hn⟩ : ∃ n : Int, n = ((scanB (l.length + 1) l e 0).2 : Int) := ⟨_, rfl⟩
    obtain ⟨k, hk⟩ : ∃ k, k = ps.length := ⟨_, rfl⟩
    have hkb : k ≤ 5000 := by
      have h1 := scanB_count (l.length + 1) l e 0
      have h2 := (scanB_end (l.length + 1) l e 0).1
      have h3 := HA.out.len
      rw [← hp, ← hk] at h1
      omega
    have HP : ∀ w r w', ScanP w l e r w' → (∃ P c vs, r = .returned (.tuple #[.slice P k c, .int .i64 n]) ∧ Has w' w'.heap.size P k vs ∧ Many w' vs ps) ∧ Below w.heap.size w w' := by
      rintro w r w' ⟨⟨v, vs, hr, hown, hM⟩, hb⟩
      rw [← hp] at hown hM
      rw [← hn] at hr
      rw [← hk] at hown
      obtain ⟨P, c, rfl, hh, _⟩ := Has.of_own hown
      exact ⟨⟨P, c, vs, hr, hh, hM⟩, hb⟩
    have h0 := listsB_refl ps
    have h1e := eqL_refl l
    clear hp hn hk
    go_enter Try.func5, Try.ntmps5
    go_wp2_with fail
    refine (ownBytes_any A len cap _ l _ HA.out.1 HA.out.2.2.2 (by omega) (Nat.le_refl _)).mono ?_
    rintro r w1 ⟨⟨v, rfl, hown⟩, hb⟩
    obtain ⟨A1, c1, rfl, h1, hc1⟩ := Has.of_own hown
    have hA1 := of_own_none hown
    clear hown
    have h2 := (HA.out.1.below hb).more hb.size
    go_wp2_with fail
    refine (scan_all e A1 len c1 _ l w1 h1 hA1 hc1 (by omega) (Nat.le_refl _)).mono ?_
    intro r w2 hr
    obtain ⟨⟨P1, d1, vs1, rfl, hh1, hM1⟩, hb2⟩ := HP w1 r w2 hr
    clear hr
    replace h1 := (h1.below hb2).more hb2.size
    replace h2 := (h2.below hb2).more hb2.size
    replace hb := hb.trans (hb2.mono hb.size)
    clear hb2
    go_wp2_with fail
    refine (refScan_all e A len cap _ l w2 h2 HA.out.2.2.2 HA.out.2.1 (by omega) (Nat.le_refl _)).mono ?_
    intro r w3 hr
    obtain ⟨⟨P2, d2, vs2, rfl, hh2, hM2⟩, hb3⟩ := HP w2 r w3 hr
    clear hr HP
    replace h1 := (h1.below hb3).more hb3.size
    replace h2 := (h2.below hb3).more hb3.size
    replace hh1 := (hh1.below hb3).more hb3.size
    replace hM1 := hM1.below hb3
    replace hb := hb.trans (hb3.mono hb.size)
    clear hb3
    go_wp2_with fail
    refine (lists_any P1 P2 k k d1 d2 ps ps vs1 vs2 _ w3 hh1 hh2 hM1 hM2 (Nat.le_refl _) (by omega) (by omega)).mono ?_
    rintro r w4 ⟨rfl, hb4⟩
    replace h1 := h1.below hb4
    replace h2 := h2.below hb4
    replace hb := hb.trans (hb4.mono hb.size)
    clear hh1 hh2 hM1 hM2
    go_wp2_with fail
    refine (bytes_any A1 A len c1 len cap _ l l w4 h1 h2).mono ?_
    rintro r w' ⟨rfl, rfl⟩
    go_wp2_with fail
    refine (awake_any w4).mono ?_
    rintro r w5 ⟨rfl, hb5⟩
    go_wp2
    go_ret
    exact ⟨rfl, hb.trans (hb5.mono hb.size)⟩
  · have hlen' : (5000 : Int) < (len : Int) := by omega
    go_enter Try.func5, Try.ntmps5
    go_wp2_with fail
    refine (awake_any w).mono ?_
    rintro r w2 ⟨rfl, hb2⟩
    go_wp2
    go_ret
    exact ⟨rfl, hb2⟩

end Go.Proofs.Ytfnoahbhccgbgaa
