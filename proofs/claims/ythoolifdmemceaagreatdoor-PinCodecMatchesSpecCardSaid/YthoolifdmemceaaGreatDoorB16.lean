/-
Contract of the reference's Decode of layer 12.
-/
import Derived.Test.YthoolifdmemceaaGreatDoorB12
import Derived.Test.YthoolifdmemceaaGreatDoorB10
import Derived.Test.YthoolifdmemceaaGreatDoorB14
import Derived.Test.YthoolifdmemceaaGreatDoorB15
import Derived.Test.YthoolifdmemceaaGreatDoorB11
import Derived.Deep.LoopGhost
import Derived.BigQuiet
import Derived.Deep.CutRange
import Derived.Deep.CutBlock
namespace Go.Proofs.YthoolifdmemceaaGreatDoor
section
open Go.RowKit

/-- What follows when a number has been read, or not. -/
def decFin (f : Nat) (S : PSt) (_b : Nat) (F : Bool) : Except Nat (Nat × List UInt8) → Except Nat (List Nat)
  | .error e => .error e
  | .ok (j, r) => if ptN (S.val (j - S.i)) = false then .error 2 else if 256 < S.out.length + 1 then .error 3 else decGo f r (S.step (j - S.i)) (adp (j - S.i) (S.out.length + 1) F) false
theorem decGo_fin (f : Nat) (l : List UInt8) (S : PSt) (b : Nat) (F : Bool) : decGo (f + 1) l S b F = if l = [] then .ok S.out else decFin f S b F (rdNum l b 0 1 S.i) := by
  rw [decGo]
  split
  · rfl
  · cases rdNum l b 0 1 S.i with
    | error e => rfl
    | ok x => rfl
theorem u8_cmp (b : UInt8) : ((b.toNat : Int) == 45) = decide (b = 45) := by
  by_cases h : b = 45
  · rw [h]; rfl
  · rw [decide_eq_false h, beq_eq_false_iff_ne]
    exact fun e => h (UInt8.toNat_inj.1 (by rw [show (45 : UInt8).toNat = 45 from rfl]; omega))

set_option maxRecDepth 20000 in
set_option maxHeartbeats 8000000 in
theorem refDec_any (s : ByteArray) (w : World) :
    Calls Tryz.prog 49 #[.string s] w (DecPost (ls s) w) := by
  obtain ⟨i3, hi3, hz0, hz1, hz2⟩ := info_parts infoInt
  by_cases hlen : 1024 < s.size
  · have hd : decide ((1024 : Int) < (s.size : Int)) = true := decide_eq_true (by omega)
    have HE : Hid (decL (ls s) = .error 3) := by show _ = _; unfold decL; rw [if_pos (by rw [ls_length]; exact hlen)]
    go_enter Tryz.func49, Tryz.ntmps49
    go_wp2
    go_ret2
    exact DecPost.err HE.out (Below.refl _ _)
  · have hd1024 : decide ((1024 : Int) < (s.size : Int)) = false := decide_eq_false (by omega)
    have hsz : s.size ≤ 1024 := by omega
    have HDL : Hid (decL (ls s) = if (ls s).any (fun b => decide (128 ≤ b.toNat)) = true then .error 4 else if 256 < cutL (ls s) then .error 3
      else decGo ((ls s).length + 1) (restL (ls s)) (PSt.start (((ls s).take (cutL (ls s))).map UInt8.toNat)) 72 true) := by
      show _ = _
      unfold decL
      rw [if_neg (by rw [ls_length]; exact hlen)]
    clear hlen
    go_enter Tryz.func49, Tryz.ntmps49
    go_wp2
    go_loop [4, 5] (fun c i => ∃ k C : Nat, k ≤ s.size ∧ i = .int .i64 k ∧ c = .int .i64 C ∧ C ≤ k ∧ Hid (cutGo ((ls s).drop k) k C = cutL (ls s)) ∧ Hid ((ls s).any (fun b => decide (128 ≤ b.toNat)) = ((ls s).drop k).any (fun b => decide (128 ≤ b.toNat)))) (fun _ i => s.size - (intOf i).toNat)
    case atStart => exact ⟨0, 0, Nat.zero_le _, rfl, rfl, Nat.le_refl _, Lib.hid rfl, Lib.hid rfl⟩
    case round =>
      obtain ⟨k, C, hk, rfl, rfl, hC, HC, HA⟩ := hrel
      by_cases hlt : k < s.size
      · have hdr := drop_ls_cons s k hlt
        by_cases h128 : 128 ≤ s[k].toNat
        · have hd : decide ((128 : Int) ≤ (s[k].toNat : Int)) = true := decide_eq_true (by omega)
          have hdN : decide (128 ≤ s[k].toNat) = true := decide_eq_true h128
          have HE : Hid (decL (ls s) = .error 4) := by
            show _ = _
            rw [HDL.out, HA.out, hdr, List.any_cons, hdN, Bool.true_or, if_pos rfl]
          clear hdr
          go_wp2
          go_ret2
          exact DecPost.err HE.out (Below.refl _ _)
        · have hd : decide ((128 : Int) ≤ (s[k].toNat : Int)) = false := decide_eq_false (by omega)
          have hdN : decide (128 ≤ s[k].toNat) = false := decide_eq_false h128
          have HA2 : Hid ((ls s).any (fun b => decide (128 ≤ b.toNat)) = ((ls s).drop (k + 1)).any (fun b => decide (128 ≤ b.toNat))) := by
            show _ = _
            rw [HA.out, hdr, List.any_cons, hdN, Bool.false_or]
          have hc45 := u8_cmp s[k]
          by_cases h45 : s[k] = 45
          · rw [decide_eq_true h45] at hc45
            have HC2 : Hid (cutGo ((ls s).drop (k + 1)) (k + 1) k = cutL (ls s)) := by
              show _ = _
              rw [← HC.out, hdr, cutGo, if_pos h45]
            clear hdr h45
            go_wp2
            go_round
            case rel => exact ⟨k + 1, k, by omega, by go_num, rfl, by omega, HC2, HA2⟩
            case measure => simp [intOf]; omega
          · rw [decide_eq_false h45] at hc45
            have HC2 : Hid (cutGo ((ls s).drop (k + 1)) (k + 1) C = cutL (ls s)) := by
              show _ = _
              rw [← HC.out, hdr, cutGo, if_neg h45]
            clear hdr h45
            go_wp2
            go_round
            case rel => exact ⟨k + 1, C, by omega, by go_num, rfl, by omega, HC2, HA2⟩
            case measure => simp [intOf]; omega
      · obtain rfl : k = s.size := by omega
        have hcut : C = cutL (ls s) := by
          have := HC.out
          rw [drop_ls_all] at this
          exact this
        have HDL2 : Hid (decL (ls s) = if 256 < C then .error 3 else decGo ((ls s).length + 1) (restL (ls s)) (PSt.start (((ls s).take C).map UInt8.toNat)) 72 true) := by
          show _ = _
          rw [HDL.out, HA.out, drop_ls_all, if_neg (by simp), ← hcut]
        have hrest : restL (ls s) = (ls s).drop (if 0 < C then C + 1 else C) := by
          unfold restL
          rw [← hcut]
          split
          · rfl
          · rename_i h0
            rw [show C = 0 by omega]
            rfl
        have HREST := Lib.hid hrest
        have hCl : 0 < C → C < s.size := by
          intro h0
          have := cutL_lt (ls s) (by rw [← hcut]; exact h0)
          rw [ls_length, ← hcut] at this
          exact this
        have HCL := Lib.hid hCl
        clear HC HA HDL hcut hrest hCl
        go_wp2_with fail
        go_loopg [6, 7] C (fun g v i wr => ∃ k : Nat, k ≤ C ∧ g = C - k ∧ i = .int .i64 k ∧ wr.ownsRow w.heap.size 3 1 v k ((((ls s).take k).map UInt8.toNat).map nvI) ∧ Below w.heap.size w wr)
        case atStart => exact ⟨0, Nat.zero_le _, rfl, rfl, World.ownsRow_nil _ _ _ _, Below.refl _ _⟩
        case round =>
          obtain ⟨k, hk2, hg, rfl, hown, hb⟩ := hrel
          have HG := Lib.hid hg
          clear hg
          by_cases hlt2 : k < C
          · have hks : k < s.size := by omega
            have hkd : decide ((k : Int) < (C : Int)) = true := decide_eq_true (by omega)
            have hkN : decide (k < C) = true := decide_eq_true hlt2
            have htk := take_ls_succ s k hks
            have hbl := byte_lt s[k]
            have HTK : Hid ((((ls s).take (k + 1)).map UInt8.toNat).map nvI = (((ls s).take k).map UInt8.toNat).map nvI ++ [.int .i64 (s[k].toNat : Int)]) := by
              show _ = _
              rw [htk]
              simp
            clear htk
            go_wp2_with (at_builtin; refine wpList_app_one wr rfl _ _ 65 rfl w.heap.size 3 i3 (.int .i64 0) 8 tyInts hi3 hz0 hz1 hz2 rfl _ (by exact rfl) _ _ _ (by exact rfl) hown (by exact rfl) (by unfold maxLen; omega) (by omega) hb (Nat.le_refl _) ?_; intro v' w' hown' hb' _)
            go_roundg (C - (k + 1))
            case rel =>
              refine ⟨k + 1, by omega, rfl, by go_num, ?_, hb'⟩
              rw [HTK.out]
              exact hown'
            case measure => rw [HG.out]; omega
          · obtain rfl : k = C := by omega
            have hkd : decide ((k : Int) < (k : Int)) = false := by simp
            obtain ⟨A6, c6, rfl, _, _⟩ := Has.of_own hown
            by_cases h256 : 256 < k
            · have hd : decide ((256 : Int) < (k : Int)) = true := decide_eq_true (by omega)
              have hdN : decide (256 < k) = true := decide_eq_true h256
              have HE : Hid (decL (ls s) = .error 3) := by show _ = _; rw [HDL2.out, if_pos h256]
              go_wp2
              go_ret2
              exact DecPost.err HE.out hb
            · have hd : decide ((256 : Int) < (k : Int)) = false := decide_eq_false (by omega)
              have hdN : decide (256 < k) = false := decide_eq_false h256
              obtain ⟨a0, ha0⟩ : ∃ a0 : Nat, a0 = if 0 < k then k + 1 else k := ⟨_, rfl⟩
              have ha0s : a0 ≤ s.size := by
                rw [ha0]
                split
                · rename_i h0; have := HCL.out h0; omega
                · omega
              have HS0 : Hid (decL (ls s) = decGo ((ls s).length + 1) ((ls s).drop a0) (PSt.start (((ls s).take k).map UInt8.toNat)) 72 true) := by
                show _ = _
                rw [HDL2.out, if_neg h256, HREST.out, ← ha0]
              have hLk : (((ls s).take k).map UInt8.toNat).length = k := by rw [List.length_map, List.length_take, ls_length]; omega
              have HLK := Lib.hid hLk
              go_upto_if 53 with fail
              go_cut [8] from 53 to 55 (fun v wx => wx = wr ∧ v = .int .i64 (a0 : Int))
              case first =>
                by_cases h0 : 0 < k
                · have hd0 : decide ((0 : Int) < (k : Int)) = true := decide_eq_true (by omega)
                  have hd0N : decide (0 < k) = true := decide_eq_true h0
                  have e0 : (a0 : Int) = (k : Int) + 1 := by rw [ha0, if_pos h0]; omega
                  go_wp2_with fail
                  go_meet
                  exact ⟨rfl, by rw [e0]⟩
                · have hd0 : decide ((0 : Int) < (k : Int)) = false := decide_eq_false (by omega)
                  have hd0N : decide (0 < k) = false := decide_eq_false h0
                  have e0 : (a0 : Int) = (k : Int) := by rw [ha0, if_neg h0]
                  go_wp2_with fail
                  go_meet
                  exact ⟨rfl, by rw [e0]⟩
              case rest =>
              obtain ⟨rfl, rfl⟩ := hcut
              clear HREST HDL2 HCL ha0 hLk
              go_wp2_with fail
              go_loopg [6, 8, 9, 10, 11, 12] (s.size - a0) (fun g v av nn ii bi fi wr => ∃ (a : Nat) (S : PSt) (N I b L : Nat) (F : Bool), a ≤ s.size ∧ g = s.size - a ∧ av = .int .i64 a ∧ nn = .int .i64 N ∧ ii = .int .i64 I ∧ bi = .int .i64 b ∧ fi = .bool F ∧ L ≤ 256 ∧ N ≤ 1114111 ∧ I ≤ 257 ∧ b ≤ 1000 ∧ Hid (S.out.length = L ∧ S.n = N ∧ S.i = I) ∧
                Hid (∃ f, s.size - a < f ∧ decL (ls s) = decGo f ((ls s).drop a) S b F) ∧ wr.ownsRow w.heap.size 3 1 v L (S.out.map nvI) ∧ Below w.heap.size w wr)
              case atStart => exact ⟨a0, PSt.start (((ls s).take k).map UInt8.toNat), 128, 0, 72, k, true, ha0s, rfl, rfl, rfl, rfl, rfl, rfl, by omega, by omega, by omega, by omega, Lib.hid ⟨HLK.out, rfl, rfl⟩, Lib.hid ⟨_, by rw [ls_length]; omega, HS0.out⟩, hown, hb⟩
              case round =>
                clear hown hb
                obtain ⟨a, S, N, I, b, L, F, ha, hg3, rfl, rfl, rfl, rfl, rfl, hL, hN, hI, hbb, HS, HF, hown, hb⟩ := hrel
                have HG3 := Lib.hid hg3
                clear hg3
                by_cases hlta : a < s.size
                · have had : decide ((a : Int) < (s.size : Int)) = true := decide_eq_true (by omega)
                  have hF2 : ∃ f, s.size - (a + 1) < f ∧ decL (ls s) = decFin f S b F (rdNum ((ls s).drop a) b 0 1 I) := by
                    obtain ⟨f, hf, he⟩ := HF.out
                    cases f with
                    | zero => omega
                    | succ f =>
                      refine ⟨f, by omega, ?_⟩
                      rw [he, decGo_fin, if_neg (by rw [drop_ls_cons s a hlta]; simp), HS.out.2.2]
                  obtain ⟨f, hf, hfin⟩ := hF2
                  have HFIN := Lib.hid hfin
                  clear hfin HF
                  obtain ⟨A6', c6', rfl, _, _⟩ := Has.of_own hown
                  go_wp2_with fail
                  obtain ⟨wo, rfl⟩ : ∃ wo : World, wo = wr := ⟨_, rfl⟩
                  obtain ⟨go, rfl⟩ : ∃ go : Nat, go = gk := ⟨_, rfl⟩
                  go_loopg [8, 10, 14, 15] (s.size + 1 - a) (fun g av ii ww kk wr => ∃ (a' i' w' k' : Nat), wr = wo ∧ a' ≤ s.size ∧ g = s.size + 1 - a' ∧ av = .int .i64 a' ∧ ii = .int .i64 i' ∧ ww = .int .i64 w' ∧ kk = .int .i64 k' ∧ a ≤ a' ∧ i' ≤ 1099511627776 ∧ w' ≤ 1099511627776 ∧ k' ≤ a' ∧
                    Hid (rdNum ((ls s).drop a) b 0 1 I = rdNum ((ls s).drop a') b k' w' i'))
                  case atStart => exact ⟨a, I, 1, 0, rfl, ha, rfl, rfl, rfl, rfl, rfl, Nat.le_refl _, by omega, by omega, Nat.zero_le _, Lib.hid rfl⟩
                  case round =>
                    obtain ⟨a', i', w', k', rfl, ha', hg4, rfl, rfl, rfl, rfl, haa, hi', hw', hk', HRD⟩ := hrel
                    have HG4 := Lib.hid hg4
                    clear hg4
                    have HFI : Hid (decL (ls s) = decFin f S b F (rdNum ((ls s).drop a') b k' w' i')) := by show _ = _; rw [HFIN.out, HRD.out]
                    by_cases hlt5 : a' < s.size
                    · have hged : decide ((s.size : Int) ≤ (a' : Int)) = false := decide_eq_false (by omega)
                      have hgeN : decide (s.size ≤ a') = false := decide_eq_false (by omega)
                      have hdr := drop_ls_cons s a' hlt5
                      have cV := refVal_any s[a']
                      cases hpv : pval s[a'] with
                      | none =>
                        have hvz : valZ s[a'] = -1 := by unfold valZ; rw [hpv]
                        rw [hvz] at cV
                        have HE : Hid (decL (ls s) = .error 4) := by show _ = _; rw [HFI.out, hdr, rdNum, hpv]; rfl
                        clear hdr hvz hpv
                        go_wp2_with (go_at_call 62; refine (cV _).mono ?_; rintro e w' ⟨rfl, rfl⟩)
                        go_ret2
                        exact DecPost.err HE.out hb
                      | some d =>
                        have hvz : valZ s[a'] = (d : Int) := by unfold valZ; rw [hpv]
                        rw [hvz] at cV
                        have hd36 := pval_lt hpv
                        have hdn : decide ((d : Int) < 0) = false := decide_eq_false (by omega)
                        have hrd : rdNum ((ls s).drop a') b k' w' i' = if 1099511627776 < i' + d * w' then .error 19 else if d < thr k' b then .ok (i' + d * w', (ls s).drop (a' + 1)) else if 1099511627776 < w' * (36 - thr k' b) then .error 19 else rdNum ((ls s).drop (a' + 1)) b (k' + 1) (w' * (36 - thr k' b)) (i' + d * w') := by rw [hdr, rdNum, hpv]
                        have hdw : (d : Int) * (w' : Int) = ((d * w' : Nat) : Int) := by simp
                        have hdwb : d * w' ≤ 35 * 1099511627776 := Nat.mul_le_mul (by omega) hw'
                        obtain ⟨i2, hi2⟩ : ∃ i2, i2 = i' + d * w' := ⟨_, rfl⟩
                        rw [← hi2] at hrd
                        have hdw0 : 0 ≤ (d : Int) * (w' : Int) := by omega
                        have hdw1 : (d : Int) * (w' : Int) ≤ 38482906972160 := by omega
                        have hi2i : (i' : Int) + (d : Int) * (w' : Int) = (i2 : Int) := by omega
                        have HI2 := Lib.hid hi2i
                        have hi2b : i2 ≤ 39582418599936 := by omega
                        have ht := thr_range k' b
                        have cT := refThr_any k' b (by omega) (by omega)
                        have HRD2 := Lib.hid hrd
                        clear hdr hpv hvz hdw hdwb hi2 hrd
                        by_cases hov : 1099511627776 < i2
                        · have hovd : decide ((1099511627776 : Int) < (i2 : Int)) = true := decide_eq_true (by omega)
                          have hovN : decide (1099511627776 < i2) = true := decide_eq_true hov
                          have HE : Hid (decL (ls s) = .error 19) := by show _ = _; rw [HFI.out, HRD2.out, if_pos hov]; rfl
                          go_wp2_with (go_at_call 62; refine (cV _).mono ?_; rintro e w' ⟨rfl, rfl⟩)
                          go_ret2
                          exact DecPost.err HE.out hb
                        · have hovd : decide ((1099511627776 : Int) < (i2 : Int)) = false := decide_eq_false (by omega)
                          have hovN : decide (1099511627776 < i2) = false := decide_eq_false hov
                          obtain ⟨t, hte⟩ : ∃ t, t = thr k' b := ⟨_, rfl⟩
                          rw [← hte] at HRD2 ht cT
                          clear hte
                          by_cases hdt : d < t
                          · have hdtd : decide ((d : Int) < (t : Int)) = true := decide_eq_true (by omega)
                            have hdtN : decide (d < t) = true := decide_eq_true hdt
                            have HOK : Hid (rdNum ((ls s).drop a') b k' w' i' = .ok (i2, (ls s).drop (a' + 1))) := by show _ = _; rw [HRD2.out, if_neg hov, if_pos hdt]
                            have hIi : I ≤ i2 := by
                              obtain ⟨q, x, _, _, _, e⟩ := rdNum_ok _ b 0 1 I i2 _ (HRD.out.trans HOK.out)
                              omega
                            have HFO : Hid (decL (ls s) = decFin f S b F (.ok (i2, (ls s).drop (a' + 1)))) := by show _ = _; rw [HFI.out, HOK.out]
                            have hval : S.val (i2 - I) = N + i2 / (L + 1) := by
                              unfold PSt.val
                              rw [HS.out.1, HS.out.2.1, HS.out.2.2, show I + (i2 - I) = i2 by omega]
                            have hpos : S.pos (i2 - I) = i2 % (L + 1) := by
                              unfold PSt.pos
                              rw [HS.out.1, HS.out.2.2, show I + (i2 - I) = i2 by omega]
                            obtain ⟨dv, hdv⟩ : ∃ dv, dv = i2 / (L + 1) := ⟨_, rfl⟩
                            obtain ⟨ps, hps⟩ : ∃ ps, ps = i2 % (L + 1) := ⟨_, rfl⟩
                            have hdvb : dv ≤ i2 := by rw [hdv]; exact Nat.div_le_self _ _
                            have hpsb : ps ≤ L := by rw [hps]; have := Nat.mod_lt i2 (show 0 < L + 1 by omega); omega
                            have hdvi : Int.tdiv (i2 : Int) ((L : Int) + 1) = (dv : Int) := by
                              rw [Int.tdiv_eq_ediv_of_nonneg (by omega), hdv, show ((L : Int) + 1) = ((L + 1 : Nat) : Int) by omega]
                              exact (Int.natCast_ediv _ _).symm
                            have hpsi : Int.tmod (i2 : Int) ((L : Int) + 1) = (ps : Int) := by
                              rw [Int.tmod_eq_emod_of_nonneg (by omega), hps, show ((L : Int) + 1) = ((L + 1 : Nat) : Int) by omega]
                              exact (Int.natCast_emod _ _).symm
                            have hne0 : ¬ ((L : Int) + 1 = 0) := by omega
                            rw [← hdv] at hval
                            rw [← hps] at hpos
                            obtain ⟨n2, hn2⟩ : ∃ n2, n2 = N + dv := ⟨_, rfl⟩
                            rw [← hn2] at hval
                            have hn2i : (N : Int) + (dv : Int) = (n2 : Int) := by omega
                            have cA := refAdp_any (i2 - I) (L + 1) F (by omega) (by omega) (by omega)
                            rw [show ((i2 - I : Nat) : Int) = (i2 : Int) - (I : Int) by omega, show ((L + 1 : Nat) : Int) = (L : Int) + 1 by omega] at cA
                            have hb2 : adp (i2 - I) (L + 1) F ≤ 1000 := adp_le _ _ _ (by omega)
                            obtain ⟨b2, hb2e⟩ : ∃ b2, b2 = adp (i2 - I) (L + 1) F := ⟨_, rfl⟩
                            rw [← hb2e] at cA hb2
                            have HFP : Hid (decL (ls s) = if ptN n2 = false then .error 2 else if 256 < L + 1 then .error 3 else decGo f ((ls s).drop (a' + 1)) (S.step (i2 - I)) b2 false) := by
                              show _ = _
                              rw [HFO.out, decFin, HS.out.2.2, hval, HS.out.1, ← hb2e]
                            have cP := refPoint_any (n2 : Int)
                            rw [ptZ_nat] at cP
                            have HSTEP : Hid ((S.step (i2 - I)).out = S.out.take ps ++ n2 :: S.out.drop ps ∧ (S.step (i2 - I)).n = n2 ∧ (S.step (i2 - I)).i = ps + 1) := by
                              refine Lib.hid ⟨?_, hval, ?_⟩
                              · show S.out.take (S.pos _) ++ S.val _ :: S.out.drop (S.pos _) = _
                                rw [hval, hpos]
                              · show S.pos _ + 1 = _
                                rw [hpos]
                            clear hval hpos hdv hps hn2 hb2e HFO HFI HOK HRD2
                            cases hpt : ptN n2 with
                            | false =>
                              rw [hpt] at cP
                              have HE : Hid (decL (ls s) = .error 2) := by show _ = _; rw [HFP.out, if_pos hpt]
                              clear hpt
                              go_wp2_with (first
                                | (go_at_call 62; refine (cV _).mono ?_; rintro e w' ⟨rfl, rfl⟩)
                                | (go_at_call 63; refine (cT _).mono ?_; rintro e w' ⟨rfl, rfl⟩)
                                | (go_at_call 64; refine (cA _).mono ?_; rintro e w' ⟨rfl, rfl⟩)
                                | (go_at_call 65; refine (cP _).mono ?_; rintro e w' ⟨rfl, rfl⟩))
                              go_ret2
                              exact DecPost.err HE.out hb
                            | true =>
                              rw [hpt] at cP
                              have hn2b := ptN_le hpt
                              have HFQ : Hid (decL (ls s) = if 256 < L + 1 then .error 3 else decGo f ((ls s).drop (a' + 1)) (S.step (i2 - I)) b2 false) := by show _ = _; rw [HFP.out, if_neg (by rw [hpt]; simp)]
                              clear hpt HFP
                              go_upto_region 47 with (first
                                | (go_at_call 62; refine (cV _).mono ?_; rintro e w' ⟨rfl, rfl⟩)
                                | (go_at_call 63; refine (cT _).mono ?_; rintro e w' ⟨rfl, rfl⟩)
                                | (go_at_call 64; refine (cA _).mono ?_; rintro e w' ⟨rfl, rfl⟩)
                                | (go_at_call 65; refine (cP _).mono ?_; rintro e w' ⟨rfl, rfl⟩))
                              go_cut [6] from 117 to 128 (fun v wx => wx.ownsRow w.heap.size 3 1 v (L + 1) ((S.step (i2 - I)).out.map nvI) ∧ Below w.heap.size w wx)
                              case first =>
                                have HOUT := Lib.hid HSTEP.out.1
                                have HL9 := Lib.hid HS.out.1
                                have hbw := Lib.hid hb
                                clear cV cT cA cP HFQ HSTEP HS HRD HFIN HS0 HLK HI2
                                rcases hown.2 with ⟨e9, h09⟩ | ⟨g6, cap9, cur9, e9, hg9, hr9, hnc9, hn9, hsz9, htk9⟩
                                · injection e9 with e1 e2 e3
                                  subst e1 e2 e3
                                  have hps0 : ps = 0 := by omega
                                  have hnil : S.out = [] := List.eq_nil_of_length_eq_zero HL9.out
                                  rw [hnil] at HOUT
                                  refine ins_nil n2 ps _ _ _ _ _ _ _ _ _ _ _ _ _ _ _ _ _ _ _ _ _ _ _ _ _ _ _ _ _ _ _ _ _ _ _ _ _ _ _ _ _ _ _ _ _ _ _ _ _ _ _ _ _ _ _ _ _ _ _ _ _ _ _ _ _ _ _ _ _ _ _ _ _ _ _ _ _ _ _ _ _ _ _ _ _ _ _ _ _ _ _ _ _ _ _ _ _ _ _ _ _ _ _ _ _ _ _ _ _ _ _ _ _ _ _ _ _ _ _ _ _ _ _ _ _ _ _ _ _ _ _ _ _ _ hps0 ?_
                                  intro v z117 z118 z119 z120 z121 z122 z123 z124 z125 z126 z127 z128 wy hy hby
                                  rw [← HOUT.out] at hy
                                  clear hps0
                                  go_wp2_with fail
                                  go_meet
                                  exact ⟨own_low9 hy hbw.out.size, hbw.out.trans (hby.mono hbw.out.size)⟩
                                · injection e9 with e1 e2 e3
                                  subst e1 e3
                                  have hgl : g6 < wr.heap.size := (Array.getElem?_eq_some_iff.1 hr9).1
                                  obtain ⟨A9, c9', e9', hhas, _⟩ := Has.of_own hown
                                  injection e9' with e91 e92 e93
                                  subst e91
                                  have e94 : c9' = c6' := e93.symm
                                  subst e94
                                  by_cases hc0 : c9' = 0
                                  · subst hc0
                                    obtain rfl : L = 0 := by omega
                                    have hps0 : ps = 0 := by omega
                                    have hnil : S.out = [] := List.eq_nil_of_length_eq_zero HL9.out
                                    rw [hnil] at HOUT
                                    refine ins_zero n2 ps g6 _ _ _ _ _ _ _ _ _ _ _ _ _ _ _ _ _ _ _ _ _ _ _ _ _ _ _ _ _ _ _ _ _ _ _ _ _ _ _ _ _ _ _ _ _ _ _ _ _ _ _ _ _ _ _ _ _ _ _ _ _ _ _ _ _ _ _ _ _ _ _ _ _ _ _ _ _ _ _ _ _ _ _ _ _ _ _ _ _ _ _ _ _ _ _ _ _ _ _ _ _ _ _ _ _ _ _ _ _ _ _ _ _ _ _ _ _ _ _ _ _ _ _ _ _ _ _ _ _ _ _ _ _ _ hps0 ?_
                                    intro v z117 z118 z119 z120 z121 z122 z123 z124 z125 z126 z127 z128 wy hy hby
                                    rw [← HOUT.out] at hy
                                    clear hps0
                                    go_wp2_with fail
                                    go_meet
                                    exact ⟨own_low9 hy hbw.out.size, hbw.out.trans (hby.mono hbw.out.size)⟩
                                  · have hcell : ∀ W, Below wr.heap.size wr W → ∀ j (hj : j < (S.out.map nvI).length), W.cell? ⟨g6, j, none⟩ = some (S.out.map nvI)[j] := by
                                      intro W hW j hj
                                      obtain ⟨b', off', e, hlt', hc⟩ := hhas.at_ (k := j) (by rw [List.length_map, HL9.out] at hj; omega)
                                      injection e with e
                                      injection e with e1 e2 _
                                      subst e1 e2
                                      rw [Nat.zero_add] at hc
                                      exact (hW.cell (p := ⟨g6, j, none⟩) hlt').trans hc
                                    refine ins_some n2 ps g6 L c9' S.out _ _ _ _ _ _ _ _ _ _ _ _ _ _ _ _ _ _ _ _ _ _ _ _ _ _ _ _ _ _ _ _ _ _ _ _ _ _ _ _ _ _ _ _ _ _ _ _ _ _ _ _ _ _ _ _ _ _ _ _ _ _ _ _ _ _ _ _ _ _ _ _ _ _ _ _ _ _ _ _ _ _ _ _ _ _ _ _ _ _ _ _ _ _ _ _ _ _ _ _ _ _ _ _ _ _ _ _ _ _ _ _ _ _ _ _ _ _ _ _ _ _ _ _ _ _ _ _ _ _ _ _ _ _ (by omega) HL9.out (by omega) (by omega) hc0 hcell ?_
                                    intro v z117 z118 z119 z120 z121 z122 z123 z124 z125 z126 z127 z128 wy hy hby
                                    rw [← HOUT.out] at hy
                                    go_wp2_with fail
                                    go_meet
                                    exact ⟨own_low9 hy hbw.out.size, hbw.out.trans (hby.mono hbw.out.size)⟩
                              case rest =>
                              obtain ⟨hown2, hb3⟩ := hcut
                              obtain ⟨A7, c7, rfl, _, _⟩ := Has.of_own hown2
                              by_cases h257 : 256 < L + 1
                              · have hld : decide ((256 : Int) < ((L + 1 : Nat) : Int)) = true := decide_eq_true (by omega)
                                have hld2 : decide ((256 : Int) < (L : Int) + 1) = true := decide_eq_true (by omega)
                                have hldN : decide (256 < L + 1) = true := decide_eq_true h257
                                have HE : Hid (decL (ls s) = .error 3) := by show _ = _; rw [HFQ.out, if_pos h257]
                                go_wp2
                                go_ret2
                                exact DecPost.err HE.out hb3
                              · have hld : decide ((256 : Int) < ((L + 1 : Nat) : Int)) = false := decide_eq_false (by omega)
                                have hld2 : decide ((256 : Int) < (L : Int) + 1) = false := decide_eq_false (by omega)
                                have hldN : decide (256 < L + 1) = false := decide_eq_false h257
                                have HF2 : Hid (∃ f, s.size - (a' + 1) < f ∧ decL (ls s) = decGo f ((ls s).drop (a' + 1)) (S.step (i2 - I)) b2 false) := Lib.hid ⟨f, by omega, by rw [HFQ.out, if_neg h257]⟩
                                have HS2 : Hid ((S.step (i2 - I)).out.length = L + 1 ∧ (S.step (i2 - I)).n = n2 ∧ (S.step (i2 - I)).i = ps + 1) := Lib.hid ⟨by rw [PSt.step_len, HS.out.1], HSTEP.out.2.1, HSTEP.out.2.2⟩
                                go_wp2
                                go_roundg (s.size - (a' + 1))
                                case rel => exact ⟨a' + 1, S.step (i2 - I), n2, ps + 1, b2, L + 1, false, by omega, rfl, rfl, rfl, by go_num, rfl, rfl, by omega, hn2b, by omega, hb2, HS2, HF2, hown2, hb3⟩
                                case measure => rw [HG3.out]; omega
                          · have hdtd : decide ((d : Int) < (t : Int)) = false := decide_eq_false (by omega)
                            have hdtN : decide (d < t) = false := decide_eq_false hdt
                            have hwt : (w' : Int) * (36 - (t : Int)) = ((w' * (36 - t) : Nat) : Int) := by rw [Int.natCast_mul, Int.natCast_sub (by omega)]; rfl
                            have hwtb : w' * (36 - t) ≤ 1099511627776 * 35 := Nat.mul_le_mul hw' (by omega)
                            obtain ⟨w2, hw2⟩ : ∃ w2, w2 = w' * (36 - t) := ⟨_, rfl⟩
                            rw [← hw2] at hwt hwtb
                            have hwt0 : 0 ≤ (w' : Int) * (36 - (t : Int)) := by omega
                            have hwt1 : (w' : Int) * (36 - (t : Int)) ≤ 38482906972160 := by omega
                            have HRD3 : Hid (rdNum ((ls s).drop a') b k' w' i' = if 1099511627776 < w2 then .error 19 else rdNum ((ls s).drop (a' + 1)) b (k' + 1) w2 i2) := by
                              show _ = _
                              rw [HRD2.out, if_neg hov, if_neg hdt, ← hw2]
                            clear hw2 HRD2
                            by_cases hwo : 1099511627776 < w2
                            · have hwod : decide ((1099511627776 : Int) < (w2 : Int)) = true := decide_eq_true (by omega)
                              have hwoN : decide (1099511627776 < w2) = true := decide_eq_true hwo
                              have HE : Hid (decL (ls s) = .error 19) := by show _ = _; rw [HFI.out, HRD3.out, if_pos hwo]; rfl
                              go_wp2_with (first
                                | (go_at_call 62; refine (cV _).mono ?_; rintro e w' ⟨rfl, rfl⟩)
                                | (go_at_call 63; refine (cT _).mono ?_; rintro e w' ⟨rfl, rfl⟩))
                              go_ret2
                              exact DecPost.err HE.out hb
                            · have hwod : decide ((1099511627776 : Int) < (w2 : Int)) = false := decide_eq_false (by omega)
                              have hwoN : decide (1099511627776 < w2) = false := decide_eq_false hwo
                              have HRD4 : Hid (rdNum ((ls s).drop a) b 0 1 I = rdNum ((ls s).drop (a' + 1)) b (k' + 1) w2 i2) := by
                                show _ = _
                                rw [HRD.out, HRD3.out, if_neg hwo]
                              go_wp2_with (first
                                | (go_at_call 62; refine (cV _).mono ?_; rintro e w' ⟨rfl, rfl⟩)
                                | (go_at_call 63; refine (cT _).mono ?_; rintro e w' ⟨rfl, rfl⟩))
                              go_roundg (s.size + 1 - (a' + 1))
                              case rel => exact ⟨a' + 1, i2, w2, k' + 1, rfl, by omega, rfl, by go_num, by go_num, by go_num, by go_num, by omega, by omega, by omega, by omega, HRD4⟩
                              case measure => rw [HG4.out]; omega
                    · obtain rfl : a' = s.size := by omega
                      have hged : decide ((s.size : Int) ≤ (s.size : Int)) = true := by simp
                      have HE : Hid (decL (ls s) = .error 4) := by show _ = _; rw [HFI.out, drop_ls_all, rdNum]; rfl
                      go_wp2
                      go_ret2
                      exact DecPost.err HE.out hb
                · obtain rfl : a = s.size := by omega
                  have had : decide ((s.size : Int) < (s.size : Int)) = false := by simp
                  have HE : Hid (decL (ls s) = .ok S.out) := by
                    show _ = _
                    obtain ⟨f, hf, he⟩ := HF.out
                    cases f with
                    | zero => omega
                    | succ f => rw [he, decGo_fin, drop_ls_all, if_pos rfl]
                  go_wp2
                  go_ret2
                  refine DecPost.ok HE.out ?_ hb
                  rw [HS.out.1]
                  exact hown
end

end Go.Proofs.YthoolifdmemceaaGreatDoor
