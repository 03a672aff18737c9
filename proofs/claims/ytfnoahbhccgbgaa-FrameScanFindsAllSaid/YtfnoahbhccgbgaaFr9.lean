/-
  The walk of FrameScanFindsAll: it returns true.
-/
import Derived.Test.YtfnoahbhccgbgaaFr7
import Derived.Test.YtfnoahbhccgbgaaOpL
namespace Go.Proofs.Ytfnoahbhccgbgaa
open Go.RowKit

theorem nv_next (e : W32) : (nv e + 1) % 4294967296 = nv (e + 1#32) := by
  unfold nv
  rw [BitVec.toNat_add, show (1#32).toNat = 1 from rfl]
  omega
theorem In2.at_ {w : World} {A : Option Addr} {n : Nat} {vs : List Value} {ps : List (List UInt8)} (h : In2 w A n vs ps) {k : Nat} (hk : k < ps.length) :
    ∃ b off X c, A = some ⟨b, off, none⟩ ∧ b < w.heap.size ∧ w.cell? ⟨b, off + k, none⟩ = some (.slice X ps[k].length c) ∧ Arg8 w X ps[k].length c ps[k] := by
  obtain ⟨hA, hl, hh⟩ := h
  have hkv : k < vs.length := by rw [hl]; exact hk
  have hn : k < n := by rw [← hA.1]; exact hkv
  obtain ⟨b, off, e, hb, hc⟩ := hA.at_ hn
  obtain ⟨X, c, hv, h8⟩ := hh k vs[k] ps[k] (List.getElem?_eq_getElem hkv) (List.getElem?_eq_getElem hk)
  rw [hv] at hc
  exact ⟨b, off, X, c, e, hb, hc, h8⟩
theorem In2.many {w : World} {A : Option Addr} {n : Nat} {vs : List Value} {ps : List (List UInt8)} (h : In2 w A n vs ps) : ManyH w vs ps :=
  ⟨h.2.1, fun i v p h1 h2 => by
    obtain ⟨A', c', e, h8⟩ := h.2.2 i v p h1 h2
    exact ⟨A', c', e, h8.2.2.2, h8.2.1, h8.1⟩⟩
theorem frames_next (e : W32) (ps : List (List UInt8)) (k : Nat) (h : k < ps.length) : framesB e 0 (ps.take (k + 1)) = framesB e 0 (ps.take k) ++ frameB e (sq k) ps[k] := by
  rw [List.take_succ_eq_append_getElem h, framesB_snoc, List.length_take, Nat.min_eq_left (by omega), Nat.zero_add]
theorem take_all_next {ps : List (List UInt8)} {k : Nat} (h : k < ps.length) (ha : ∀ p ∈ ps.take k, p.length ≤ 1024) (hk : ps[k].length ≤ 1024) : ∀ p ∈ ps.take (k + 1), p.length ≤ 1024 := by
  intro p hp
  rw [List.take_succ_eq_append_getElem h] at hp
  rcases List.mem_append.1 hp with hp | hp
  · exact ha p hp
  · rw [List.mem_singleton.1 hp]; exact hk
/-- What a scan of frames, followed by anything, finds. -/
theorem scan_found (e : W32) (ps : List (List UInt8)) (rest : List UInt8) (hp : ∀ p ∈ ps, p.length ≤ 1024) :
    ∃ more m, scanB ((framesB e 0 ps ++ rest).length + 1) (framesB e 0 ps ++ rest) e 0 = (ps ++ more, (framesB e 0 ps).length + m) ∧ 14 * (ps ++ more).length ≤ (framesB e 0 ps).length + m ∧ (framesB e 0 ps).length + m ≤ (framesB e 0 ps).length + rest.length := by
  have hle := framesB_le e ps hp 0
  have h := scanB_frames e rest ps ((framesB e 0 ps ++ rest).length + 1) 0 (by rw [List.length_append]; omega) hp
  refine ⟨_, _, h, ?_, ?_⟩
  · have := scanB_count ((framesB e 0 ps ++ rest).length + 1) (framesB e 0 ps ++ rest) e 0
    rw [h] at this
    exact this
  · have := (scanB_end ((framesB e 0 ps ++ rest).length + 1) (framesB e 0 ps ++ rest) e 0).1
    rw [h] at this
    rw [← List.length_append]
    exact this

set_option maxHeartbeats 4000000 in
theorem walkAll (ep : Int) (A1 : Option Addr) (n1 c1 : Nat) (A2 : Option Addr) (n2 c2 : Nat) (w : World) (he : (Lit.int .u32 ep).wf = true) (h1 : ∃ vs ps, In2 w A1 n1 vs ps) (h2 : ∃ l, Arg8 w A2 n2 c2 l) :
    Calls Try.prog 6 #[.int .u32 ep, .slice A1 n1 c1, .slice A2 n2 c2] w (Yes w) := by
  obtain ⟨vs, ps, hin⟩ := h1
  obtain ⟨rest, hrest⟩ := h2
  obtain ⟨e, rfl⟩ := w32_of he
  have HI := Lib.hid hin
  have HR := Lib.hid hrest
  have HPL := Lib.hid (show ps.length = n1 by rw [← hin.2.1]; exact hin.1.1)
  clear hin hrest he
  by_cases hb1 : 20 < n1
  · have hb1' : decide ((20 : Int) < (n1 : Int)) = true := decide_eq_true (by omega)
    go_enter Try.func6, Try.ntmps6
    go_wp2_with fail
    refine (awake_any w).mono ?_
    rintro r w2 ⟨rfl, hb2⟩
    go_wp2
    go_ret
    exact ⟨rfl, hb2⟩
  · have hb1' : ¬ (20 : Int) < (n1 : Int) := by omega
    by_cases hb2 : 1000 < n2
    · have hb2' : (1000 : Int) < (n2 : Int) := by omega
      go_enter Try.func6, Try.ntmps6
      go_wp2_with fail
      refine (awake_any w).mono ?_
      rintro r w2 ⟨rfl, hb2⟩
      go_wp2
      go_ret
      exact ⟨rfl, hb2⟩
    · have hb2' : ¬ (1000 : Int) < (n2 : Int) := by omega
      obtain ⟨i5, hi5, hz0, hz1, hz2⟩ := info_parts infoU8
      go_enter Try.func6, Try.ntmps6
      go_wp2
      go_loopw [7, 8] (fun v i wr => ∃ (k L : Nat), k ≤ n1 ∧ i = .int .i64 k ∧ L ≤ 1038 * k ∧ Hid (L = (framesB e 0 (ps.take k)).length) ∧ Hid (∀ p ∈ ps.take k, p.length ≤ 1024) ∧
        wr.ownsRow w.heap.size 5 1 v L ((framesB e 0 (ps.take k)).map bv) ∧ Below w.heap.size w wr) (fun _ i _ => n1 - (intOf i).toNat)
      case atStart => exact ⟨0, 0, Nat.zero_le _, rfl, Nat.zero_le _, rfl, (fun p hp => by simp at hp), World.ownsRow_nil _ _ _ _, Below.refl _ _⟩
      case round =>
        obtain ⟨k, L, hk, rfl, hL, HLL, HSM, hown, hb⟩ := hrel
        by_cases hlt : k < n1
        · have hkp : k < ps.length := by rw [HPL.out]; exact hlt
          obtain ⟨b, off, X, c, rfl, hbl, hc, h8⟩ := HI.out.at_ hkp
          have hcw : wr.cell? ⟨b, off + k, none⟩ = some (.slice X ps[k].length c) := (hb.cell hbl).trans hc
          obtain ⟨p, hp⟩ : ∃ p, p = ps[k] := ⟨_, rfl⟩
          rw [← hp] at hcw h8
          have HPK := Lib.hid hp
          have H8 := Lib.hid h8
          obtain ⟨P, hP⟩ : ∃ P, P = p.length := ⟨_, rfl⟩
          rw [← hP] at hcw
          have HP := Lib.hid hP
          clear hc hp h8 hP hbl
          by_cases hbig : 1024 < P
          · have hbig' : (1024 : Int) < (P : Int) := by omega
            go_wp2_with fail
            refine (awake_any wr).mono ?_
            rintro r w2 ⟨rfl, hb2⟩
            go_wp2
            go_ret
            exact ⟨rfl, hb.trans (hb2.mono hb.size)⟩
          · have hbig' : ¬ (1024 : Int) < (P : Int) := by omega
            have henc := encode_yes e (sq k) X P c _ p wr (by rw [HP.out]; exact H8.out.1.below hb) H8.out.2.2.2 (by omega) hb.size
            rw [sq_nv k (by omega)] at henc
            go_wp2_with fail
            refine henc.mono ?_
            rintro r w1 ⟨⟨v2, rfl, hown2⟩, hb1⟩
            obtain ⟨Af, cf, rfl, hf, _⟩ := Has.of_own hown2
            have hfn := of_own_none hown2
            have hown3 := own_below hown hb1
            replace hb := hb.trans (hb1.mono hb.size)
            clear hown2 hown hb1 henc
            go_wp2_with (at_builtin; refine wpList_app_has _ rfl _ _ 23 rfl w.heap.size 5 i5 (.int .u8 0) 1 tyBs hi5 hz0 hz1 hz2 rfl _ _ _ (by exact rfl) hown3 Af (14 + P) cf _ ((frameB e (sq k) p).map bv) (by exact rfl) hfn hf (one_bytes _) (by unfold maxLen; omega) (by omega) hb (Nat.le_refl _) ?_; intro v4 w4 hown4 hb4 _)
            go_roundw
            case rel =>
              have hnx := frames_next e ps k hkp
              rw [← HPK.out] at hnx
              refine ⟨k + 1, L + (14 + P), by omega, by go_num, by omega, ?_, ?_, ?_, hb4⟩
              · show _ = _
                rw [hnx, List.length_append, frameB_length, ← HLL.out, HP.out]
              · exact take_all_next hkp HSM.out (by rw [← HPK.out, ← HP.out]; omega)
              · rw [hnx, List.map_append]; exact hown4
            case measure => simp [intOf]; omega
        · obtain rfl : k = n1 := by omega
          have hta : ps.take k = ps := List.take_of_length_le (by rw [HPL.out]; exact Nat.le_refl _)
          rw [hta] at HLL HSM hown
          obtain ⟨Ab, cb, rfl, hBb, hcb⟩ := Has.of_own hown
          have hbn := of_own_none hown
          obtain ⟨more, m, hsc, hcnt, hend⟩ := scan_found e ps rest HSM.out
          have hot := scanB_other e (e + 1#32) (next_ne e) ps ((framesB e 0 ps).length + 1) HSM.out
          obtain ⟨FB, hFB⟩ : ∃ F, F = framesB e 0 ps := ⟨_, rfl⟩
          rw [← hFB] at HLL hBb hsc hcnt hend hot
          rw [← HLL.out] at hsc hcnt hend
          have hrl := HR.out.len
          obtain ⟨M, hM⟩ : ∃ M, M = L + m := ⟨_, rfl⟩
          rw [← hM] at hsc hcnt hend
          have hML : L ≤ M := by omega
          obtain ⟨K, hK⟩ : ∃ K, K = (ps ++ more).length := ⟨_, rfl⟩
          rw [← hK] at hcnt
          have hKk : k ≤ K := by rw [hK, List.length_append, HPL.out]; omega
          have hKb : K ≤ 100000 := by omega
          have HX2 := Lib.hid (show ((scanB ((FB ++ rest).length + 1) (FB ++ rest) e 0).2 : Int) = (M : Int) by rw [hsc])
          have HX1 := Lib.hid (show (scanB ((FB ++ rest).length + 1) (FB ++ rest) e 0).1 = ps ++ more by rw [hsc])
          have HKH := Lib.hid hK
          have HOT := Lib.hid hot
          have hnext := nv_next e
          obtain ⟨x1, hx1⟩ : ∃ x, x = nv (e + 1#32) := ⟨_, rfl⟩
          rw [← hx1] at hnext
          have HX := Lib.hid hx1
          have hMb : M ≤ 100000 := by omega
          clear hta hown hFB hsc hcnt hend hot hrl hM hK hx1
          go_wp2_with fail
          refine (ownBytes_any Ab L cb _ FB wr hBb hbn (by omega) (Nat.le_refl _)).mono ?_
          rintro r w1 ⟨⟨v3, rfl, hown3⟩, hb3⟩
          go_wp2_with (at_builtin; refine wpList_app_has _ rfl _ _ 23 rfl wr.heap.size 5 i5 (.int .u8 0) 1 tyBs hi5 hz0 hz1 hz2 rfl _ _ _ (by exact rfl) hown3 A2 n2 c2 _ (rest.map bv) (by exact rfl) HR.out.2.2.2 (HR.out.1.below' (hb.trans (hb3.mono hb.size)) (Nat.le_refl _)) (one_bytes _) (by unfold maxLen; omega) (by omega) hb3 (Nat.le_refl _) ?_; intro v4 w4 hown4 hb4 _; rw [← List.map_append] at hown4; obtain ⟨A4, c4, rfl, h4, hc4⟩ := Has.of_own hown4)
          refine (scan_all e A4 (L + n2) c4 _ (FB ++ rest) w4 h4 (of_own_none hown4) hc4 (by omega) (Nat.le_refl _)).mono ?_
          rintro r w5 ⟨⟨v5, vs5, rfl, hown5, hM5⟩, hb5⟩
          rw [HX2.out]
          rw [HX1.out, ← HKH.out] at hown5
          rw [HX1.out] at hM5
          obtain ⟨A5, c5, rfl, h5, hc5⟩ := Has.of_own hown5
          replace hb5 := hb4.trans (hb5.mono hb4.size)
          clear hown3 hown4 hown5 hb3 hb4 h4
          have hm5 := hM5.weak.take
          rw [HPL.out] at hm5
          have h5t := h5.take k hKk
          have hbw := hb.trans (hb5.mono hb.size)
          have hI5 := HI.out.1.below hbw
          have hMI5 := HI.out.many.below hbw
          have hB5 := hBb.below hb5
          clear hM5
          have hKi : ¬ (K : Int) < (k : Int) := by omega
          have hMi : ¬ (M : Int) < (L : Int) := by omega
          have hkc : k ≤ c5 := by omega
          have hls := listsB_refl ps
          go_wp2_with fail
          refine (listsH_any A5 A1 k k c5 c1 ps ps (vs5.take k) vs _ w5 h5t (hI5.more hbw.size) hm5 hMI5 (Nat.le_refl _) (by omega) (by omega)).mono ?_
          rintro r w6 ⟨rfl, hb6⟩
          have hB6 := hB5.below' hb6 hb5.size
          replace hbw := hbw.trans (hb6.mono hbw.size)
          go_wp2_with fail
          have hso := scan_all (e + 1#32) Ab L cb _ FB w6 hB6 hbn hcb (by omega) (Nat.le_trans hb5.size hb6.size)
          rw [← HX.out] at hso
          refine hso.mono ?_
          rintro r w7 ⟨⟨v7, vs7, rfl, hown7, _⟩, hb7⟩
          rw [HOT.out] at hown7
          rw [HOT.out]
          obtain ⟨A7, c7, rfl, _, _⟩ := Has.of_own hown7
          replace hbw := hbw.trans (hb7.mono hbw.size)
          clear hown7 hb7 hso
          go_wp2_with fail
          refine (awake_any w7).mono ?_
          rintro r w8 ⟨rfl, hb8⟩
          go_wp2
          go_ret
          exact ⟨rfl, hbw.trans (hb8.mono hbw.size)⟩

end Go.Proofs.Ytfnoahbhccgbgaa
