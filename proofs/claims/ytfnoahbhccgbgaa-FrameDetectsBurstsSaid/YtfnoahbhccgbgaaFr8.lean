/-
  The walk of FrameDetectsBursts: it returns true.
-/
import Derived.Test.YtfnoahbhccgbgaaFr7
import Derived.Test.YtfnoahbhccgbgaaFlp
import Derived.Test.YtfnoahbhccgbgaaKeepM
namespace Go.Proofs.Ytfnoahbhccgbgaa
open Go.RowKit

theorem nv_seven : nv 7#32 = 7 := by unfold nv; rfl
theorem DecP.seven {w w' : World} {l : List UInt8} {e q : W32} {r : Ending} (h : DecP w l e q r w') (hd : derr l e q = 7) : ∃ P c, r = .returned (.tuple #[.slice P 0 c, .int .i64 0, .int .i64 7]) ∧ Below w.heap.size w w' := by
  obtain ⟨⟨P, c, rfl, _⟩, hb⟩ := h
  have h0 : derr l e q ≠ 0 := by omega
  rw [hd, dpl_no h0, dn_no h0]
  exact ⟨P, c, rfl, hb⟩
theorem anyHit_hit {n a p k : Nat} (h : hits n a p k = true) : anyHit n a p (k + 1) = true := by
  show (anyHit n a p k || hits n a p k) = true
  rw [h, Bool.or_true]
theorem anyHit_miss {n a p k : Nat} (h : ¬ hits n a p k = true) : anyHit n a p (k + 1) = anyHit n a p k := by
  show (anyHit n a p k || hits n a p k) = _
  rw [show hits n a p k = false by simpa using h, Bool.or_false]

set_option maxHeartbeats 4000000 in
theorem walkBurst (A : Option Addr) (len cap : Nat) (zs : List Int) (at_ s0 : Int) (w : World) (h : In8 w A len cap zs) (ha : (Lit.int .i64 at_).wf = true) (hs : (Lit.int .u32 s0).wf = true) :
    Calls Try.prog 7 #[.slice A len cap, .int .i64 at_, .int .u32 s0] w (Yes w) := by
  obtain ⟨l, hl⟩ := arg8_of h
  obtain ⟨p, rfl⟩ := w32_of hs
  have hab := bounds_i64 ha
  have hpg := nv_ge p
  have hpl := nv_lt p
  have HA := Lib.hid hl
  clear hl h ha hs
  by_cases hlen : 1024 < len
  · have hlen' : (1024 : Int) < (len : Int) := by omega
    have hlen2 : decide ((1024 : Int) < (len : Int)) = true := decide_eq_true hlen'
    go_enter Try.func7, Try.ntmps7
    go_wp2_with fail
    refine (awake_any w).mono ?_
    rintro r w2 ⟨rfl, hb2⟩
    go_wp2
    go_ret
    exact ⟨rfl, hb2⟩
  · have hlen' : ¬ (1024 : Int) < (len : Int) := by omega
    by_cases hp0 : nv p = 0
    · go_enter Try.func7, Try.ntmps7
      go_wp2_with fail
      refine (awake_any w).mono ?_
      rintro r w2 ⟨rfl, hb2⟩
      go_wp2
      go_ret
      exact ⟨rfl, hb2⟩
    · have hp0' : (nv p == 0) = false := by simp [hp0]
      have hL := HA.out.len
      have hL4 : l.length ≤ 1024 := by omega
      have henc := encode_yes 7#32 p A len cap _ l w HA.out.1 HA.out.2.2.2 (by omega) (Nat.le_refl _)
      rw [nv_seven] at henc
      obtain ⟨N, hN⟩ : ∃ N, N = 14 + len := ⟨_, rfl⟩
      have hN' : 14 + (len : Int) = (N : Int) := by omega
      have hNb : N ≤ 1038 := by omega
      have hN0 : 14 ≤ N := by omega
      rw [← hN] at henc
      obtain ⟨F, hF⟩ : ∃ F, F = frameB 7#32 p l := ⟨_, rfl⟩
      have HFL := Lib.hid (show F.length = N by rw [hF, frameB_length]; omega)
      have HF := Lib.hid hF
      rw [← hF] at henc
      obtain ⟨m, hm⟩ : ∃ m : Nat, at_ % (8 * (N : Int) - 16) = (m : Int) := ⟨(at_ % (8 * (N : Int) - 16)).toNat, by have := Int.emod_nonneg at_ (show 8 * (N : Int) - 16 ≠ 0 by omega); omega⟩
      have hmb : m ≤ 10000 := by have := Int.emod_lt_of_pos at_ (show (0 : Int) < 8 * (N : Int) - 16 by omega); omega
      have hmod := fun v => mod_any at_ (8 * (N : Int) - 16) (by omega) (by omega) (by omega) (by omega) v
      rw [hm] at hmod
      obtain ⟨a, ha⟩ : ∃ a, a = 16 + m := ⟨_, rfl⟩
      have ha' : 16 + (m : Int) = (a : Int) := by omega
      have hab2 : a ≤ 10016 := by omega
      have Ha16 := Lib.hid (show 16 ≤ a by omega)
      clear hF hm ha hN hab
      go_enter Try.func7, Try.ntmps7
      go_wp2_with fail
      refine henc.mono ?_
      rintro r w1 ⟨⟨v, rfl, hown⟩, hb⟩
      obtain ⟨g, c, rfl, hg, hO⟩ := Own8.of hown (by omega)
      have hNc : N ≤ c := by obtain ⟨cur, _, _, hnc, _⟩ := hO; exact hnc
      have HO := Lib.hid (show Own8 w1 g c N F ∧ Below w.heap.size w w1 from ⟨hO, hb⟩)
      clear hown hO hb henc
      go_wp2_with fail
      refine (hmod w1).mono ?_
      rintro r w' ⟨rfl, rfl⟩
      go_wp2
      go_loopw [10, 11] (fun ch i wr => ∃ (k : Nat) (cb : Bool), k ≤ 32 ∧ i = .int .i64 k ∧ ch = .bool cb ∧ Hid (cb = anyHit N a p.toNat k ∧ Own8 wr g c N (flips F a p.toNat k) ∧ Below w.heap.size w wr)) (fun _ i _ => 32 - (intOf i).toNat)
      case atStart => exact ⟨0, false, Nat.zero_le _, rfl, rfl, rfl, HO.out.1, HO.out.2⟩
      case round =>
        obtain ⟨k, cb, hk, rfl, rfl, HR⟩ := hrel
        by_cases hlt : k < 32
        · obtain ⟨s, hs⟩ : ∃ s, nv p / 2 ^ k = s := ⟨_, rfl⟩
          have hs0 : 0 ≤ s := by rw [← hs]; exact shr_ge0 p k
          have HS := Lib.hid hs
          obtain ⟨j, hj⟩ : ∃ j, j = a + k := ⟨_, rfl⟩
          have hsum : (a : Int) + (k : Int) = (j : Int) := by omega
          have HJ := Lib.hid hj
          have hjb : j ≤ 10048 := by omega
          clear hs hj
          by_cases hbit : s % 2 = 1
          · by_cases hin : j / 8 < N
            · obtain ⟨q, hq⟩ : ∃ q, q = j / 8 := ⟨_, rfl⟩
              obtain ⟨r, hr⟩ : ∃ r, r = j % 8 := ⟨_, rfl⟩
              have hdiv : (j : Int) / 8 = (q : Int) := by omega
              have hmod2 : (j : Int) % 8 = (r : Int) := by omega
              have hr8 : r < 8 := by omega
              have hql : q < N := by omega
              have hcell := HR.out.2.1.cell hql
              have hfro := HR.out.2.1.frozen q
              obtain ⟨y, hy⟩ : ∃ y, y = (flips F a p.toNat k).getD q 0 := ⟨_, rfl⟩
              have hx := xor_u8 y (mask8 r)
              have hw := mask8_pow r hr8
              obtain ⟨yv, hyv⟩ : ∃ v : Int, v = (y.toNat : Int) := ⟨_, rfl⟩
              obtain ⟨mv, hmv⟩ : ∃ v : Int, v = ((mask8 r).toNat : Int) := ⟨_, rfl⟩
              obtain ⟨zv, hzv⟩ : ∃ v : Int, v = ((y ^^^ mask8 r).toNat : Int) := ⟨_, rfl⟩
              rw [← hy, ← hyv] at hcell
              rw [← hyv, ← hmv, ← hzv] at hx
              rw [← hmv] at hw
              have HQ := Lib.hid hq
              have HR8 := Lib.hid hr
              have HY := Lib.hid hy
              have HZ := Lib.hid hzv
              have HHIT := Lib.hid (show hits N a p.toNat k = true by
                unfold hits
                rw [decide_eq_true ((nv_bit HS.out).2 hbit), decide_eq_true (by rw [← HJ.out, ← HQ.out]; exact hql)]
                rfl)
              clear hq hr hy hin hyv hmv hzv
              go_wp2_with (refine wpList_shr32 _ rfl _ _ _ _ rfl ty_u32 _ k hk (by exact rfl) (by exact rfl) s HS.out ?_)
              go_region
              go_wp2
              go_roundw
              case rel =>
                refine ⟨k + 1, true, by omega, by go_num, rfl, (anyHit_hit HHIT.out).symm, ?_, (HR.out.2.2.setCell hg _).drew⟩
                rw [flips_hit (by rw [HFL.out]; exact HHIT.out), ← HJ.out, ← HQ.out, ← HR8.out, ← HY.out]
                exact HR.out.2.1.set_cell hql _ _ HZ.out
              case measure => simp [intOf]; omega
            · have hin' : ¬ (j : Int) / 8 < (N : Int) := by omega
              have hge : (N : Int) ≤ (j : Int) / 8 := by omega
              have HM := Lib.hid (show ¬ hits N a p.toNat k = true by unfold hits; rw [← HJ.out]; simp [hin])
              go_wp2_with (refine wpList_shr32 _ rfl _ _ _ _ rfl ty_u32 _ k hk (by exact rfl) (by exact rfl) s HS.out ?_)
              go_roundw
              case rel =>
                refine ⟨k + 1, cb, by omega, by go_num, rfl, by rw [anyHit_miss HM.out]; exact HR.out.1, ?_, HR.out.2.2⟩
                rw [flips_miss (by rw [HFL.out]; exact HM.out)]
                exact HR.out.2.1
              case measure => simp [intOf]; omega
          · have hbit0 : s % 2 = 0 := by omega
            have HM := Lib.hid (show ¬ hits N a p.toNat k = true by unfold hits; rw [decide_eq_false (fun h => hbit ((nv_bit HS.out).1 h))]; simp)
            clear hbit
            go_wp2_with (refine wpList_shr32 _ rfl _ _ _ _ rfl ty_u32 _ k hk (by exact rfl) (by exact rfl) s HS.out ?_)
            go_roundw
            case rel =>
              refine ⟨k + 1, cb, by omega, by go_num, rfl, by rw [anyHit_miss HM.out]; exact HR.out.1, ?_, HR.out.2.2⟩
              rw [flips_miss (by rw [HFL.out]; exact HM.out)]
              exact HR.out.2.1
            case measure => simp [intOf]; omega
        · obtain rfl : k = 32 := by omega
          have hdec := decode_any 7#32 p (some ⟨g, 0, none⟩) N c _ (flips F a p.toNat 32) wr HR.out.2.1.has hNc (by omega) (Nat.le_refl _)
          rw [nv_seven] at hdec
          have hb := HR.out.2.2
          cases cb with
          | true =>
            have HD : Hid (derr (flips F a p.toNat 32) 7#32 p = 7) := by
              show _ = _
              have h1 := HR.out.1
              rw [← HFL.out, HF.out] at h1
              rw [HF.out]
              exact derr_burst 7#32 p l a p.toNat hL4 Ha16.out h1.symm
            go_wp2_with fail
            refine hdec.mono ?_
            intro r w2 hr
            obtain ⟨P, d, rfl, hb2⟩ := hr.seven HD.out
            replace hb := hb.trans (hb2.mono hb.size)
            clear hr hdec hb2
            go_wp2_with fail
            refine (awake_any w2).mono ?_
            rintro r w3 ⟨rfl, hb3⟩
            go_wp2
            go_ret
            exact ⟨rfl, hb.trans (hb3.mono hb.size)⟩
          | false =>
            have HD : Hid (derr (flips F a p.toNat 32) 7#32 p = 0) := by
              show _ = _
              have h1 := HR.out.1
              rw [← HFL.out] at h1
              rw [flips_none h1.symm 32 (Nat.le_refl _), HF.out]
              have := derr_frame 7#32 p l [] hL4
              rwa [List.append_nil] at this
            go_wp2_with fail
            refine hdec.mono ?_
            intro r w2 hr
            obtain ⟨v, rfl, _, _, hb2⟩ := hr.got HD.out
            replace hb := hb.trans (hb2.mono hb.size)
            clear hr hdec hb2
            go_wp2_with fail
            refine (awake_any w2).mono ?_
            rintro r w3 ⟨rfl, hb3⟩
            go_wp2
            go_ret
            exact ⟨rfl, hb.trans (hb3.mono hb.size)⟩

end Go.Proofs.Ytfnoahbhccgbgaa
