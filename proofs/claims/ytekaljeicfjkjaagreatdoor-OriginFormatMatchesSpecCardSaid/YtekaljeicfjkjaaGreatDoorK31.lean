/-
Contract of the reference's Decode of layer 12.
Contracts of the reference of layer 13: proper, Valid.
Canonical labels, test by test. No program.
-/
import Derived.Test.YtekaljeicfjkjaaGreatDoorK28
import Derived.Test.YtekaljeicfjkjaaGreatDoorK14
import Derived.Test.YtekaljeicfjkjaaGreatDoorK29
import Derived.Test.YtekaljeicfjkjaaGreatDoorK30
import Derived.Test.YtekaljeicfjkjaaGreatDoorK07
import Derived.Deep.LoopGhost
import Derived.BigQuiet
import Derived.Deep.CutRange
import Derived.Deep.CutBlock
import Derived.Test.YtekaljeicfjkjaaGreatDoorK02
namespace Go.Proofs.YtekaljeicfjkjaaGreatDoor
section
open Go.RowKit
set_option maxHeartbeats 16000000
def zxx (f : Nat) (S : PSt) (_b : Nat) (F : Bool) : Except Nat (Nat × List UInt8) -> Except Nat (List Nat)
 | .error e => .error e
 | .ok (j, r) => if ptN (S.val (j - S.i)) = false then .error 2 else if 256 < S.out.length + 1 then .error 3 else zyd f r (S.step (j - S.i)) (adp (j - S.i) (S.out.length + 1) F) false
theorem zxy (f : Nat) (l : List UInt8) (S : PSt) (b : Nat) (F : Bool) : zyd (f + 1) l S b F = if l = [] then .ok S.out else zxx f S b F (z0c l b 0 1 S.i) := by
 rw [zyd]
 split
 ·rfl
 ·cases z0c l b 0 1 S.i with
  | error e => rfl
  | ok x => rfl
theorem zxz (b : UInt8) : ((b.toNat : Int) == 45) = decide (b = 45) := by
 by_cases h : b = 45
 ·rw [h]; rfl
 ·rw [jF h, beq_eq_false_iff_ne]
  exact fun e => h (UInt8.toNat_inj.1 (by rw [show (45 : UInt8).toNat = 45 from rfl]; omega))
set_option maxRecDepth 20000 in
theorem zx0 (s : ByteArray) (w : World) :
 Calls Tryz.prog 163 #[.string s] w (z0h (ls s) w) := by
 obtain ⟨i3, hi3, hz0, hz1, hz2⟩ := info_parts z0j
 by_cases hlen : 1024 < s.size
 ·have hd : decide ((1024 : Int) < (s.size : Int)) = true := jT (by omega)
  have HE : Hid (zye (ls s) = .error 3) := by show _ = _; unfold zye; rw [if_pos (by rw [zb4]; exact hlen)]
  go_enter Tryz.func163, Tryz.ntmps163
  go_wp2
  go_ret2
  exact z0h.err HE.out (Below.refl _ _)
 ·have hd1024 : decide ((1024 : Int) < (s.size : Int)) = false := jF (by omega)
  have hsz : s.size <= 1024 := by omega
  have HDL : Hid (zye (ls s) = if (ls s).any (fun b => decide (128 <= b.toNat)) = true then .error 4 else if 256 < zx7 (ls s) then .error 3
   else zyd ((ls s).length + 1) (zyc (ls s)) (PSt.start (((ls s).take (zx7 (ls s))).map UInt8.toNat)) 72 true) := by
   show _ = _
   unfold zye
   rw [if_neg (by rw [zb4]; exact hlen)]
  clear hlen
  go_enter Tryz.func163, Tryz.ntmps163
  go_wp2
  go_loop [4, 5] (fun c i => ∃ k C : Nat, k <= s.size /\ i = .int .i64 k /\ c = .int .i64 C /\ C <= k /\ Hid (zx6 ((ls s).drop k) k C = zx7 (ls s)) /\ Hid ((ls s).any (fun b => decide (128 <= b.toNat)) = ((ls s).drop k).any (fun b => decide (128 <= b.toNat)))) (fun _ i => s.size - (intOf i).toNat)
  case atStart => exact ⟨0, 0, Nat.zero_le _, rfl, rfl, jH, jL rfl, jL rfl⟩
  case round =>
   obtain ⟨k, C, hk, rfl, rfl, hC, HC, HA⟩ := hrel
   by_cases hlt : k < s.size
   ·have hdr := zcc s k hlt
    by_cases h128 : 128 <= s[k].toNat
    ·have hd : decide ((128 : Int) <= (s[k].toNat : Int)) = true := jT (by omega)
     have hdN : decide (128 <= s[k].toNat) = true := jT h128
     have HE : Hid (zye (ls s) = .error 4) := by
      show _ = _
      rw [HDL.out, HA.out, hdr, List.any_cons, hdN, Bool.true_or, if_pos rfl]
     clear hdr
     go_wp2
     go_ret2
     exact z0h.err HE.out (Below.refl _ _)
    ·have hd : decide ((128 : Int) <= (s[k].toNat : Int)) = false := jF (by omega)
     have hdN : decide (128 <= s[k].toNat) = false := jF h128
     have HA2 : Hid ((ls s).any (fun b => decide (128 <= b.toNat)) = ((ls s).drop (k + 1)).any (fun b => decide (128 <= b.toNat))) := by
      show _ = _
      rw [HA.out, hdr, List.any_cons, hdN, Bool.false_or]
     have hc45 := zxz s[k]
     by_cases h45 : s[k] = 45
     ·rw [jT h45] at hc45
      have HC2 : Hid (zx6 ((ls s).drop (k + 1)) (k + 1) k = zx7 (ls s)) := by
       show _ = _
       rw [<- HC.out, hdr, zx6, if_pos h45]
      clear hdr h45
      go_wp2
      go_round
      case rel => exact ⟨k + 1, k, by omega, by go_num, rfl, by omega, HC2, HA2⟩
      case measure => simp [intOf]; omega
     ·rw [jF h45] at hc45
      have HC2 : Hid (zx6 ((ls s).drop (k + 1)) (k + 1) C = zx7 (ls s)) := by
       show _ = _
       rw [<- HC.out, hdr, zx6, if_neg h45]
      clear hdr h45
      go_wp2
      go_round
      case rel => exact ⟨k + 1, C, by omega, by go_num, rfl, by omega, HC2, HA2⟩
      case measure => simp [intOf]; omega
   ·obtain rfl : k = s.size := by omega
    have hcut : C = zx7 (ls s) := by
     have := HC.out
     rw [zcd] at this
     exact this
    have HDL2 : Hid (zye (ls s) = if 256 < C then .error 3 else zyd ((ls s).length + 1) (zyc (ls s)) (PSt.start (((ls s).take C).map UInt8.toNat)) 72 true) := by
     show _ = _
     rw [HDL.out, HA.out, zcd, if_neg (by simp), <- hcut]
    have hrest : zyc (ls s) = (ls s).drop (if 0 < C then C + 1 else C) := by
     unfold zyc
     rw [<- hcut]
     split
     ·rfl
     ·rename_i h0
      rw [show C = 0 by omega]
      rfl
    have HREST := jL hrest
    have hCl : 0 < C -> C < s.size := by
     intro h0
     have := zyb (ls s) (by rw [<- hcut]; exact h0)
     rw [zb4, <- hcut] at this
     exact this
    have HCL := jL hCl
    clear HC HA HDL hcut hrest hCl
    go_wp2_with fail
    go_loopg [6, 7] C (fun g v i wr => ∃ k : Nat, k <= C /\ g = C - k /\ i = .int .i64 k /\ wr.ownsRow w.heap.size 3 1 v k ((((ls s).take k).map UInt8.toNat).map nvI) /\ Below w.heap.size w wr)
    case atStart => exact ⟨0, Nat.zero_le _, rfl, rfl, World.ownsRow_nil _ _ _ _, Below.refl _ _⟩
    case round =>
     obtain ⟨k, hk2, hg, rfl, hown, hb⟩ := hrel
     have HG := jL hg
     clear hg
     by_cases hlt2 : k < C
     ·have hks : k < s.size := by omega
      have hkd : decide ((k : Int) < (C : Int)) = true := jT (by omega)
      have hkN : decide (k < C) = true := jT hlt2
      have htk := zca s k hks
      have hbl := zce s[k]
      have HTK : Hid ((((ls s).take (k + 1)).map UInt8.toNat).map nvI = (((ls s).take k).map UInt8.toNat).map nvI ++ [.int .i64 (s[k].toNat : Int)]) := by
       show _ = _
       rw [htk]
       simp
      clear htk
      go_wp2_with (at_builtin; refine zcq wr rfl _ _ 108 rfl w.heap.size 3 i3 (.int .i64 0) 8 z0i hi3 hz0 hz1 hz2 rfl _ (by exact rfl) _ _ _ (by exact rfl) hown (by exact rfl) (by unfold maxLen; omega) (by omega) hb jH ?_; intro v' w' hown' hb' _)
      go_roundg (C - (k + 1))
      case rel =>
       refine ⟨k + 1, by omega, rfl, by go_num, ?_, hb'⟩
       rw [HTK.out]
       exact hown'
      case measure => rw [HG.out]; omega
     ·obtain rfl : k = C := by omega
      have hkd : decide ((k : Int) < (k : Int)) = false := by simp
      obtain ⟨A6, c6, rfl, _, _⟩ := Has.of_own hown
      by_cases h256 : 256 < k
      ·have hd : decide ((256 : Int) < (k : Int)) = true := jT (by omega)
       have hdN : decide (256 < k) = true := jT h256
       have HE : Hid (zye (ls s) = .error 3) := by show _ = _; rw [HDL2.out, if_pos h256]
       go_wp2
       go_ret2
       exact z0h.err HE.out hb
      ·have hd : decide ((256 : Int) < (k : Int)) = false := jF (by omega)
       have hdN : decide (256 < k) = false := jF h256
       obtain ⟨a0, ha0⟩ : ∃ a0 : Nat, a0 = if 0 < k then k + 1 else k := ⟨_, rfl⟩
       have ha0s : a0 <= s.size := by
        rw [ha0]
        split
        ·rename_i h0; have := HCL.out h0; omega
        ·omega
       have HS0 : Hid (zye (ls s) = zyd ((ls s).length + 1) ((ls s).drop a0) (PSt.start (((ls s).take k).map UInt8.toNat)) 72 true) := by
        show _ = _
        rw [HDL2.out, if_neg h256, HREST.out, <- ha0]
       have hLk : (((ls s).take k).map UInt8.toNat).length = k := by rw [List.length_map, List.length_take, zb4]; omega
       have HLK := jL hLk
       go_upto_if 53 with fail
       go_cut [8] from 53 to 55 (fun v wx => wx = wr /\ v = .int .i64 (a0 : Int))
       case first =>
        by_cases h0 : 0 < k
        ·have hd0 : decide ((0 : Int) < (k : Int)) = true := jT (by omega)
         have hd0N : decide (0 < k) = true := jT h0
         have e0 : (a0 : Int) = (k : Int) + 1 := by rw [ha0, if_pos h0]; omega
         go_wp2_with fail
         go_meet
         exact ⟨rfl, by rw [e0]⟩
        ·have hd0 : decide ((0 : Int) < (k : Int)) = false := jF (by omega)
         have hd0N : decide (0 < k) = false := jF h0
         have e0 : (a0 : Int) = (k : Int) := by rw [ha0, if_neg h0]
         go_wp2_with fail
         go_meet
         exact ⟨rfl, by rw [e0]⟩
       case rest =>
       obtain ⟨rfl, rfl⟩ := hcut
       clear HREST HDL2 HCL ha0 hLk
       go_wp2_with fail
       go_loopg [6, 8, 9, 10, 11, 12] (s.size - a0) (fun g v av nn ii bi fi wr => ∃ (a : Nat) (S : PSt) (N I b L : Nat) (F : Bool), a <= s.size /\ g = s.size - a /\ av = .int .i64 a /\ nn = .int .i64 N /\ ii = .int .i64 I /\ bi = .int .i64 b /\ fi = .bool F /\ L <= 256 /\ N <= 1114111 /\ I <= 257 /\ b <= 1000 /\ Hid (S.out.length = L /\ S.n = N /\ S.i = I) /\
        Hid (∃ f, s.size - a < f /\ zye (ls s) = zyd f ((ls s).drop a) S b F) /\ wr.ownsRow w.heap.size 3 1 v L (S.out.map nvI) /\ Below w.heap.size w wr)
       case atStart => exact ⟨a0, PSt.start (((ls s).take k).map UInt8.toNat), 128, 0, 72, k, true, ha0s, rfl, rfl, rfl, rfl, rfl, rfl, by omega, by omega, by omega, by omega, jL ⟨HLK.out, rfl, rfl⟩, jL ⟨_, by rw [zb4]; omega, HS0.out⟩, hown, hb⟩
       case round =>
        clear hown hb
        obtain ⟨a, S, N, I, b, L, F, ha, hg3, rfl, rfl, rfl, rfl, rfl, hL, hN, hI, hbb, HS, HF, hown, hb⟩ := hrel
        have HG3 := jL hg3
        clear hg3
        by_cases hlta : a < s.size
        ·have had : decide ((a : Int) < (s.size : Int)) = true := jT (by omega)
         have hF2 : ∃ f, s.size - (a + 1) < f /\ zye (ls s) = zxx f S b F (z0c ((ls s).drop a) b 0 1 I) := by
          obtain ⟨f, hf, he⟩ := HF.out
          cases f with
          | zero => omega
          | succ f =>
            refine ⟨f, by omega, ?_⟩
            rw [he, zxy, if_neg (by rw [zcc s a hlta]; simp), HS.out.2.2]
         obtain ⟨f, hf, hfin⟩ := hF2
         have HFIN := jL hfin
         clear hfin HF
         obtain ⟨A6', c6', rfl, _, _⟩ := Has.of_own hown
         go_wp2_with fail
         obtain ⟨wo, rfl⟩ : ∃ wo : World, wo = wr := ⟨_, rfl⟩
         obtain ⟨go, rfl⟩ : ∃ go : Nat, go = gk := ⟨_, rfl⟩
         go_loopg [8, 10, 14, 15] (s.size + 1 - a) (fun g av ii ww kk wr => ∃ (a' i' w' k' : Nat), wr = wo /\ a' <= s.size /\ g = s.size + 1 - a' /\ av = .int .i64 a' /\ ii = .int .i64 i' /\ ww = .int .i64 w' /\ kk = .int .i64 k' /\ a <= a' /\ i' <= 1099511627776 /\ w' <= 1099511627776 /\ k' <= a' /\
          Hid (z0c ((ls s).drop a) b 0 1 I = z0c ((ls s).drop a') b k' w' i'))
         case atStart => exact ⟨a, I, 1, 0, rfl, ha, rfl, rfl, rfl, rfl, rfl, jH, by omega, by omega, Nat.zero_le _, jL rfl⟩
         case round =>
          obtain ⟨a', i', w', k', rfl, ha', hg4, rfl, rfl, rfl, rfl, haa, hi', hw', hk', HRD⟩ := hrel
          have HG4 := jL hg4
          clear hg4
          have HFI : Hid (zye (ls s) = zxx f S b F (z0c ((ls s).drop a') b k' w' i')) := by show _ = _; rw [HFIN.out, HRD.out]
          by_cases hlt5 : a' < s.size
          ·have hged : decide ((s.size : Int) <= (a' : Int)) = false := jF (by omega)
           have hgeN : decide (s.size <= a') = false := jF (by omega)
           have hdr := zcc s a' hlt5
           have cV := zxk s[a']
           cases hpv : zz0 s[a'] with
           | none =>
             have hvz : zxj s[a'] = -1 := by unfold zxj; rw [hpv]
             rw [hvz] at cV
             have HE : Hid (zye (ls s) = .error 4) := by show _ = _; rw [HFI.out, hdr, z0c, hpv]; rfl
             clear hdr hvz hpv
             go_wp2_with (go_at_call 197; refine (cV _).mono ?_; rintro e w' ⟨rfl, rfl⟩)
             go_ret2
             exact z0h.err HE.out hb
           | some d =>
             have hvz : zxj s[a'] = (d : Int) := by unfold zxj; rw [hpv]
             rw [hvz] at cV
             have hd36 := zz3 hpv
             have hdn : decide ((d : Int) < 0) = false := jF (by omega)
             have hrd : z0c ((ls s).drop a') b k' w' i' = if 1099511627776 < i' + d * w' then .error 19 else if d < thr k' b then .ok (i' + d * w', (ls s).drop (a' + 1)) else if 1099511627776 < w' * (36 - thr k' b) then .error 19 else z0c ((ls s).drop (a' + 1)) b (k' + 1) (w' * (36 - thr k' b)) (i' + d * w') := by rw [hdr, z0c, hpv]
             have hdw : (d : Int) * (w' : Int) = ((d * w' : Nat) : Int) := by simp
             have hdwb : d * w' <= 35 * 1099511627776 := Nat.mul_le_mul (by omega) hw'
             obtain ⟨i2, hi2⟩ : ∃ i2, i2 = i' + d * w' := ⟨_, rfl⟩
             rw [<- hi2] at hrd
             have hdw0 : 0 <= (d : Int) * (w' : Int) := by omega
             have hdw1 : (d : Int) * (w' : Int) <= 38482906972160 := by omega
             have hi2i : (i' : Int) + (d : Int) * (w' : Int) = (i2 : Int) := by omega
             have HI2 := jL hi2i
             have hi2b : i2 <= 39582418599936 := by omega
             have ht := zzp k' b
             have cT := zxh k' b (by omega) (by omega)
             have HRD2 := jL hrd
             clear hdr hpv hvz hdw hdwb hi2 hrd
             by_cases hov : 1099511627776 < i2
             ·have hovd : decide ((1099511627776 : Int) < (i2 : Int)) = true := jT (by omega)
              have hovN : decide (1099511627776 < i2) = true := jT hov
              have HE : Hid (zye (ls s) = .error 19) := by show _ = _; rw [HFI.out, HRD2.out, if_pos hov]; rfl
              go_wp2_with (go_at_call 197; refine (cV _).mono ?_; rintro e w' ⟨rfl, rfl⟩)
              go_ret2
              exact z0h.err HE.out hb
             ·have hovd : decide ((1099511627776 : Int) < (i2 : Int)) = false := jF (by omega)
              have hovN : decide (1099511627776 < i2) = false := jF hov
              obtain ⟨t, hte⟩ : ∃ t, t = thr k' b := ⟨_, rfl⟩
              rw [<- hte] at HRD2 ht cT
              clear hte
              by_cases hdt : d < t
              ·have hdtd : decide ((d : Int) < (t : Int)) = true := jT (by omega)
               have hdtN : decide (d < t) = true := jT hdt
               have HOK : Hid (z0c ((ls s).drop a') b k' w' i' = .ok (i2, (ls s).drop (a' + 1))) := by show _ = _; rw [HRD2.out, if_neg hov, if_pos hdt]
               have hIi : I <= i2 := by
                obtain ⟨q, x, _, _, _, e⟩ := z0e _ b 0 1 I i2 _ (HRD.out.trans HOK.out)
                omega
               have HFO : Hid (zye (ls s) = zxx f S b F (.ok (i2, (ls s).drop (a' + 1)))) := by show _ = _; rw [HFI.out, HOK.out]
               have hval : S.val (i2 - I) = N + i2 / (L + 1) := by
                unfold PSt.val
                rw [HS.out.1, HS.out.2.1, HS.out.2.2, show I + (i2 - I) = i2 by omega]
               have hpos : S.pos (i2 - I) = i2 % (L + 1) := by
                unfold PSt.pos
                rw [HS.out.1, HS.out.2.2, show I + (i2 - I) = i2 by omega]
               obtain ⟨dv, hdv⟩ : ∃ dv, dv = i2 / (L + 1) := ⟨_, rfl⟩
               obtain ⟨ps, hps⟩ : ∃ ps, ps = i2 % (L + 1) := ⟨_, rfl⟩
               have hdvb : dv <= i2 := by rw [hdv]; exact Nat.div_le_self _ _
               have hpsb : ps <= L := by rw [hps]; have := Nat.mod_lt i2 (show 0 < L + 1 by omega); omega
               have hdvi : Int.tdiv (i2 : Int) ((L : Int) + 1) = (dv : Int) := by
                rw [Int.tdiv_eq_ediv_of_nonneg (by omega), hdv, show ((L : Int) + 1) = ((L + 1 : Nat) : Int) by omega]
                exact (Int.natCast_ediv _ _).symm
               have hpsi : Int.tmod (i2 : Int) ((L : Int) + 1) = (ps : Int) := by
                rw [Int.tmod_eq_emod_of_nonneg (by omega), hps, show ((L : Int) + 1) = ((L + 1 : Nat) : Int) by omega]
                exact (Int.natCast_emod _ _).symm
               have hne0 : ¬ ((L : Int) + 1 = 0) := by omega
               rw [<- hdv] at hval
               rw [<- hps] at hpos
               obtain ⟨n2, hn2⟩ : ∃ n2, n2 = N + dv := ⟨_, rfl⟩
               rw [<- hn2] at hval
               have hn2i : (N : Int) + (dv : Int) = (n2 : Int) := by omega
               have cA := zxl (i2 - I) (L + 1) F (by omega) (by omega) (by omega)
               rw [show ((i2 - I : Nat) : Int) = (i2 : Int) - (I : Int) by omega, show ((L + 1 : Nat) : Int) = (L : Int) + 1 by omega] at cA
               have hb2 : adp (i2 - I) (L + 1) F <= 1000 := zyw _ _ _ (by omega)
               obtain ⟨b2, hb2e⟩ : ∃ b2, b2 = adp (i2 - I) (L + 1) F := ⟨_, rfl⟩
               rw [<- hb2e] at cA hb2
               have HFP : Hid (zye (ls s) = if ptN n2 = false then .error 2 else if 256 < L + 1 then .error 3 else zyd f ((ls s).drop (a' + 1)) (S.step (i2 - I)) b2 false) := by
                show _ = _
                rw [HFO.out, zxx, HS.out.2.2, hval, HS.out.1, <- hb2e]
               have cP := zxg (n2 : Int)
               rw [zxf] at cP
               have HSTEP : Hid ((S.step (i2 - I)).out = S.out.take ps ++ n2 :: S.out.drop ps /\ (S.step (i2 - I)).n = n2 /\ (S.step (i2 - I)).i = ps + 1) := by
                refine jL ⟨?_, hval, ?_⟩
                ·show S.out.take (S.pos _) ++ S.val _ :: S.out.drop (S.pos _) = _
                 rw [hval, hpos]
                ·show S.pos _ + 1 = _
                 rw [hpos]
               clear hval hpos hdv hps hn2 hb2e HFO HFI HOK HRD2
               cases hpt : ptN n2 with
               | false =>
                 rw [hpt] at cP
                 have HE : Hid (zye (ls s) = .error 2) := by show _ = _; rw [HFP.out, if_pos hpt]
                 clear hpt
                 go_wp2_with (first
                  | (go_at_call 197; refine (cV _).mono ?_; rintro e w' ⟨rfl, rfl⟩)
                  | (go_at_call 158; refine (cT _).mono ?_; rintro e w' ⟨rfl, rfl⟩)
                  | (go_at_call 160; refine (cA _).mono ?_; rintro e w' ⟨rfl, rfl⟩)
                  | (go_at_call 157; refine (cP _).mono ?_; rintro e w' ⟨rfl, rfl⟩))
                 go_ret2
                 exact z0h.err HE.out hb
               | true =>
                 rw [hpt] at cP
                 have hn2b := zzo hpt
                 have HFQ : Hid (zye (ls s) = if 256 < L + 1 then .error 3 else zyd f ((ls s).drop (a' + 1)) (S.step (i2 - I)) b2 false) := by show _ = _; rw [HFP.out, if_neg (by rw [hpt]; simp)]
                 clear hpt HFP
                 go_upto_region 47 with (first
                  | (go_at_call 197; refine (cV _).mono ?_; rintro e w' ⟨rfl, rfl⟩)
                  | (go_at_call 158; refine (cT _).mono ?_; rintro e w' ⟨rfl, rfl⟩)
                  | (go_at_call 160; refine (cA _).mono ?_; rintro e w' ⟨rfl, rfl⟩)
                  | (go_at_call 157; refine (cP _).mono ?_; rintro e w' ⟨rfl, rfl⟩))
                 go_cut [6] from 117 to 128 (fun v wx => wx.ownsRow w.heap.size 3 1 v (L + 1) ((S.step (i2 - I)).out.map nvI) /\ Below w.heap.size w wx)
                 case first =>
                  have HOUT := jL HSTEP.out.1
                  have HL9 := jL HS.out.1
                  have hbw := jL hb
                  clear cV cT cA cP HFQ HSTEP HS HRD HFIN HS0 HLK HI2
                  rcases hown.2 with ⟨e9, h09⟩ | ⟨g6, cap9, cur9, e9, hg9, hr9, hnc9, hn9, hsz9, htk9⟩
                  ·injection e9 with e1 e2 e3
                   subst e1 e2 e3
                   have hps0 : ps = 0 := by omega
                   have hnil : S.out = [] := List.eq_nil_of_length_eq_zero HL9.out
                   rw [hnil] at HOUT
                   refine zpa n2 ps _ _ _ _ _ _ _ _ _ _ _ _ _ _ _ _ _ _ _ _ _ _ _ _ _ _ _ _ _ _ _ _ _ _ _ _ _ _ _ _ _ _ _ _ _ _ _ _ _ _ _ _ _ _ _ _ _ _ _ _ _ _ _ _ _ _ _ _ _ _ _ _ _ _ _ _ _ _ _ _ _ _ _ _ _ _ _ _ _ _ _ _ _ _ _ _ _ _ _ _ _ _ _ _ _ _ _ _ _ _ _ _ _ _ _ _ _ _ _ _ _ _ _ _ _ _ _ _ _ _ _ _ _ _ hps0 ?_
                   intro v z117 z118 z119 z120 z121 z122 z123 z124 z125 z126 z127 z128 wy hy hby
                   rw [<- HOUT.out] at hy
                   clear hps0
                   go_wp2_with fail
                   go_meet
                   exact ⟨zo5 hy hbw.out.size, hbw.out.trans (hby.mono hbw.out.size)⟩
                  ·injection e9 with e1 e2 e3
                   subst e1 e3
                   have hgl : g6 < wr.heap.size := (Array.getElem?_eq_some_iff.1 hr9).1
                   obtain ⟨A9, c9', e9', hhas, _⟩ := Has.of_own hown
                   injection e9' with e91 e92 e93
                   subst e91
                   have e94 : c9' = c6' := e93.symm
                   subst e94
                   by_cases hc0 : c9' = 0
                   ·subst hc0
                    obtain rfl : L = 0 := by omega
                    have hps0 : ps = 0 := by omega
                    have hnil : S.out = [] := List.eq_nil_of_length_eq_zero HL9.out
                    rw [hnil] at HOUT
                    refine zpb n2 ps g6 _ _ _ _ _ _ _ _ _ _ _ _ _ _ _ _ _ _ _ _ _ _ _ _ _ _ _ _ _ _ _ _ _ _ _ _ _ _ _ _ _ _ _ _ _ _ _ _ _ _ _ _ _ _ _ _ _ _ _ _ _ _ _ _ _ _ _ _ _ _ _ _ _ _ _ _ _ _ _ _ _ _ _ _ _ _ _ _ _ _ _ _ _ _ _ _ _ _ _ _ _ _ _ _ _ _ _ _ _ _ _ _ _ _ _ _ _ _ _ _ _ _ _ _ _ _ _ _ _ _ _ _ _ _ hps0 ?_
                    intro v z117 z118 z119 z120 z121 z122 z123 z124 z125 z126 z127 z128 wy hy hby
                    rw [<- HOUT.out] at hy
                    clear hps0
                    go_wp2_with fail
                    go_meet
                    exact ⟨zo5 hy hbw.out.size, hbw.out.trans (hby.mono hbw.out.size)⟩
                   ·have hcell : ∀ W, Below wr.heap.size wr W -> ∀ j (hj : j < (S.out.map nvI).length), W.cell? ⟨g6, j, none⟩ = some (S.out.map nvI)[j] := by
                     intro W hW j hj
                     obtain ⟨b', off', e, hlt', hc⟩ := hhas.at_ (k := j) (by rw [List.length_map, HL9.out] at hj; omega)
                     injection e with e
                     injection e with e1 e2 _
                     subst e1 e2
                     rw [Nat.zero_add] at hc
                     exact (hW.cell (p := ⟨g6, j, none⟩) hlt').trans hc
                    refine zpc n2 ps g6 L c9' S.out _ _ _ _ _ _ _ _ _ _ _ _ _ _ _ _ _ _ _ _ _ _ _ _ _ _ _ _ _ _ _ _ _ _ _ _ _ _ _ _ _ _ _ _ _ _ _ _ _ _ _ _ _ _ _ _ _ _ _ _ _ _ _ _ _ _ _ _ _ _ _ _ _ _ _ _ _ _ _ _ _ _ _ _ _ _ _ _ _ _ _ _ _ _ _ _ _ _ _ _ _ _ _ _ _ _ _ _ _ _ _ _ _ _ _ _ _ _ _ _ _ _ _ _ _ _ _ _ _ _ _ _ _ _ (by omega) HL9.out (by omega) (by omega) hc0 hcell ?_
                    intro v z117 z118 z119 z120 z121 z122 z123 z124 z125 z126 z127 z128 wy hy hby
                    rw [<- HOUT.out] at hy
                    go_wp2_with fail
                    go_meet
                    exact ⟨zo5 hy hbw.out.size, hbw.out.trans (hby.mono hbw.out.size)⟩
                 case rest =>
                 obtain ⟨hown2, hb3⟩ := hcut
                 obtain ⟨A7, c7, rfl, _, _⟩ := Has.of_own hown2
                 by_cases h257 : 256 < L + 1
                 ·have hld : decide ((256 : Int) < ((L + 1 : Nat) : Int)) = true := jT (by omega)
                  have hld2 : decide ((256 : Int) < (L : Int) + 1) = true := jT (by omega)
                  have hldN : decide (256 < L + 1) = true := jT h257
                  have HE : Hid (zye (ls s) = .error 3) := by show _ = _; rw [HFQ.out, if_pos h257]
                  go_wp2
                  go_ret2
                  exact z0h.err HE.out hb3
                 ·have hld : decide ((256 : Int) < ((L + 1 : Nat) : Int)) = false := jF (by omega)
                  have hld2 : decide ((256 : Int) < (L : Int) + 1) = false := jF (by omega)
                  have hldN : decide (256 < L + 1) = false := jF h257
                  have HF2 : Hid (∃ f, s.size - (a' + 1) < f /\ zye (ls s) = zyd f ((ls s).drop (a' + 1)) (S.step (i2 - I)) b2 false) := jL ⟨f, by omega, by rw [HFQ.out, if_neg h257]⟩
                  have HS2 : Hid ((S.step (i2 - I)).out.length = L + 1 /\ (S.step (i2 - I)).n = n2 /\ (S.step (i2 - I)).i = ps + 1) := jL ⟨by rw [PSt.step_len, HS.out.1], HSTEP.out.2.1, HSTEP.out.2.2⟩
                  go_wp2
                  go_roundg (s.size - (a' + 1))
                  case rel => exact ⟨a' + 1, S.step (i2 - I), n2, ps + 1, b2, L + 1, false, by omega, rfl, rfl, rfl, by go_num, rfl, rfl, by omega, hn2b, by omega, hb2, HS2, HF2, hown2, hb3⟩
                  case measure => rw [HG3.out]; omega
              ·have hdtd : decide ((d : Int) < (t : Int)) = false := jF (by omega)
               have hdtN : decide (d < t) = false := jF hdt
               have hwt : (w' : Int) * (36 - (t : Int)) = ((w' * (36 - t) : Nat) : Int) := by rw [Int.natCast_mul, Int.natCast_sub (by omega)]; rfl
               have hwtb : w' * (36 - t) <= 1099511627776 * 35 := Nat.mul_le_mul hw' (by omega)
               obtain ⟨w2, hw2⟩ : ∃ w2, w2 = w' * (36 - t) := ⟨_, rfl⟩
               rw [<- hw2] at hwt hwtb
               have hwt0 : 0 <= (w' : Int) * (36 - (t : Int)) := by omega
               have hwt1 : (w' : Int) * (36 - (t : Int)) <= 38482906972160 := by omega
               have HRD3 : Hid (z0c ((ls s).drop a') b k' w' i' = if 1099511627776 < w2 then .error 19 else z0c ((ls s).drop (a' + 1)) b (k' + 1) w2 i2) := by
                show _ = _
                rw [HRD2.out, if_neg hov, if_neg hdt, <- hw2]
               clear hw2 HRD2
               by_cases hwo : 1099511627776 < w2
               ·have hwod : decide ((1099511627776 : Int) < (w2 : Int)) = true := jT (by omega)
                have hwoN : decide (1099511627776 < w2) = true := jT hwo
                have HE : Hid (zye (ls s) = .error 19) := by show _ = _; rw [HFI.out, HRD3.out, if_pos hwo]; rfl
                go_wp2_with (first
                 | (go_at_call 197; refine (cV _).mono ?_; rintro e w' ⟨rfl, rfl⟩)
                 | (go_at_call 158; refine (cT _).mono ?_; rintro e w' ⟨rfl, rfl⟩))
                go_ret2
                exact z0h.err HE.out hb
               ·have hwod : decide ((1099511627776 : Int) < (w2 : Int)) = false := jF (by omega)
                have hwoN : decide (1099511627776 < w2) = false := jF hwo
                have HRD4 : Hid (z0c ((ls s).drop a) b 0 1 I = z0c ((ls s).drop (a' + 1)) b (k' + 1) w2 i2) := by
                 show _ = _
                 rw [HRD.out, HRD3.out, if_neg hwo]
                go_wp2_with (first
                 | (go_at_call 197; refine (cV _).mono ?_; rintro e w' ⟨rfl, rfl⟩)
                 | (go_at_call 158; refine (cT _).mono ?_; rintro e w' ⟨rfl, rfl⟩))
                go_roundg (s.size + 1 - (a' + 1))
                case rel => exact ⟨a' + 1, i2, w2, k' + 1, rfl, by omega, rfl, by go_num, by go_num, by go_num, by go_num, by omega, by omega, by omega, by omega, HRD4⟩
                case measure => rw [HG4.out]; omega
          ·obtain rfl : a' = s.size := by omega
           have hged : decide ((s.size : Int) <= (s.size : Int)) = true := by simp
           have HE : Hid (zye (ls s) = .error 4) := by show _ = _; rw [HFI.out, zcd, z0c]; rfl
           go_wp2
           go_ret2
           exact z0h.err HE.out hb
        ·obtain rfl : a = s.size := by omega
         have had : decide ((s.size : Int) < (s.size : Int)) = false := by simp
         have HE : Hid (zye (ls s) = .ok S.out) := by
          show _ = _
          obtain ⟨f, hf, he⟩ := HF.out
          cases f with
          | zero => omega
          | succ f => rw [he, zxy, zcd, if_pos rfl]
         go_wp2
         go_ret2
         refine z0h.ok HE.out ?_ hb
         rw [HS.out.1]
         exact hown
end

section
open Go.RowKit
set_option maxHeartbeats 16000000
def zt0 (p : List Nat) (k : Nat) : Bool := (p.take k).any (fun x => decide (128 <= x))
def zt1 (p : List Nat) (k : Nat) : Bool := (p.take k).any zs1
theorem zt2 (p : List Nat) (k : Nat) (h : k < p.length) : zt0 p (k + 1) = (zt0 p k || decide (128 <= p[k])) := by
 unfold zt0
 rw [List.take_succ_eq_append_getElem h, List.any_append]
 simp
theorem zt3 (p : List Nat) (k : Nat) (h : k < p.length) : zt1 p (k + 1) = (zt1 p k || zs1 p[k]) := by
 unfold zt1
 rw [List.take_succ_eq_append_getElem h, List.any_append]
 simp
theorem zt4 (p : List Nat) : p.all (fun x => !zs1 x) = !(p.any zs1) := by
 induction p with
 | nil => rfl
 | cons x p ih => rw [List.all_cons, List.any_cons, ih, Bool.not_or]
theorem zt5 {r : List UInt8} {p : List Nat} (h : zye r = .ok p) : zs2 r = (zt0 p p.length && !(zt1 p p.length) && decide (zyh p = r)) := by
 unfold zs2 zt0 zt1
 rw [h, List.take_length, <- zt4]
theorem zt6 {r : List UInt8} {c : Nat} (h : zye r = .error c) : zs2 r = false := by unfold zs2; rw [h]
theorem zt7 {r : List UInt8} {p : List Nat} (h : zye r = .ok p) (k : Nat) (hk : k < p.length) (hb : zs1 p[k] = true) : zs2 r = false := by
 rw [zt5 h]
 have : zt1 p p.length = true := by
  unfold zt1
  rw [List.take_length, List.any_eq_true]
  exact ⟨_, List.getElem_mem hk, hb⟩
 rw [this]
 simp
theorem zt8 (x : Nat) : zs1 x = (decide (65 <= x) && decide (x <= 90)) := rfl
theorem zt9 (x : Nat) : (x < 65 /\ zs1 x = false) \/ (65 <= x /\ x <= 90 /\ zs1 x = true) \/ (90 < x /\ x < 128 /\ zs1 x = false) \/ (128 <= x /\ zs1 x = false) := by
 rw [zt8]
 by_cases h1 : 65 <= x
 ·by_cases h2 : x <= 90
  ·exact .inr (.inl ⟨h1, h2, by rw [jT h1, jT h2]; rfl⟩)
  ·have e : (decide (65 <= x) && decide (x <= 90)) = false := by rw [jF h2, Bool.and_false]
   by_cases h3 : x < 128
   ·exact .inr (.inr (.inl ⟨by omega, h3, e⟩))
   ·exact .inr (.inr (.inr ⟨by omega, e⟩))
 ·exact .inl ⟨by omega, by rw [jF h1]; rfl⟩
theorem zua (s : ByteArray) (w : World) :
 Calls Tryz.prog 126 #[.string s] w fun e w' => e = .returned (.bool (zs2 (ls s))) /\ Below w.heap.size w w' := by
 have c1 := zx0 s w
 unfold z0h at c1
 cases hd : zye (ls s) with
 | error c =>
   have hc := zyz hd
   obtain ⟨d1, d2⟩ := z0f hd
   have hcz : ((c : Int) != 0) = true := by rw [bne_iff_ne]; omega
   have hcN : (c != 0) = true := by rw [bne_iff_ne]; exact hc
   rw [d1, d2] at c1
   rw [zt6 hd]
   clear hd d1 d2
   go_enter Tryz.func126, Tryz.ntmps126
   go_wp2_with fail
   refine c1.mono ?_
   rintro e w1 ⟨⟨v, rfl, _⟩, hb⟩
   go_wp2
   go_ret
   exact ⟨rfl, hb⟩
 | ok p =>
   obtain ⟨hP, hpl, _, _⟩ := zyq hd
   obtain ⟨d1, d2⟩ := z0g hd
   have cE := fun A c B W hA hB => zxw (p.map (fun n : Nat => (n : Int))) A p.length c B W hA hB
   rw [zy0 hP hpl] at cE
   obtain ⟨X, hX⟩ : ∃ X, X = bs (zyh p) := ⟨_, rfl⟩
   rw [show ((0 : Nat), zyh p).2 = zyh p from rfl, show (((0 : Nat), zyh p).1 : Nat) = 0 from rfl, <- hX] at cE
   obtain ⟨q, hq⟩ : ∃ q, (X.toList == s.toList) = q := ⟨_, rfl⟩
   have HR : Hid (zs2 (ls s) = (zt0 p p.length && !(zt1 p p.length) && q)) := by
    show _ = _
    rw [zt5 hd, <- hq, hX, zb3, zb3, zb0]
    congr 1
    by_cases he : zyh p = ls s
    ·rw [he]; simp
    ·rw [jF he]; simp [he]
   have HB : Hid (∀ k (hk : k < p.length), zs1 p[k] = true -> zs2 (ls s) = false) := fun k hk => zt7 hd k hk
   obtain ⟨R, hRR⟩ : ∃ R, R = zs2 (ls s) := ⟨_, rfl⟩
   rw [<- hRR] at HR HB ⊢
   rw [d1, d2] at c1
   have HPL := jL hpl
   clear hd d1 d2 hX hP hRR
   go_enter Tryz.func126, Tryz.ntmps126
   go_wp2_with fail
   refine c1.mono ?_
   rintro e w1 ⟨⟨v, rfl, hown⟩, hb⟩
   rw [zx5] at hown
   obtain ⟨A1, k1, rfl, hh, _⟩ := Has.of_own hown
   have c2 := cE A1 k1 _ w1 hh jH
   have H := jL hh
   clear hh hown cE c1
   go_wp2
   go_loop [5, 6] (fun o i => ∃ k : Nat, k <= p.length /\ i = .int .i64 k /\ o = .bool (zt0 p k) /\ Hid (zt1 p k = false)) (fun _ i => p.length - (intOf i).toNat)
   case atStart => exact ⟨0, Nat.zero_le _, rfl, rfl, rfl⟩
   case round =>
    obtain ⟨k, hk, rfl, rfl, HK⟩ := hrel
    by_cases hlt : k < p.length
    ·obtain ⟨b1, o1, rfl, hl1, hc1⟩ := H.out.2 (by omega)
     have g1 := hc1 k (by simp; exact hlt)
     rw [List.getElem_map, List.getElem_map] at g1
     have HO := jL (zt2 p k hlt)
     have HG := jL (zt3 p k hlt)
     have HBk := jL (HB.out k hlt)
     obtain ⟨x, hx⟩ : ∃ x, x = p[k] := ⟨_, rfl⟩
     rw [<- hx] at g1 HO HG HBk
     obtain ⟨o, ho⟩ : ∃ o, o = zt0 p k := ⟨_, rfl⟩
     rw [<- ho] at HO ⊢
     have hkd : decide ((k : Int) < (p.length : Int)) = true := jT (by omega)
     have hpl2 : p.length <= 256 := HPL.out
     clear hc1 hx ho
     rcases zt9 x with ⟨n1, n2⟩ | ⟨n1, n2, n3⟩ | ⟨n1, n2, n3⟩ | ⟨n1, n3⟩
     ·have t1 : decide ((128 : Int) <= (x : Int)) = false := jF (by omega)
      have t1N : decide (128 <= x) = false := jF (by omega)
      have t2 : decide ((65 : Int) <= (x : Int)) = false := jF (by omega)
      have t2N : decide (65 <= x) = false := jF (by omega)
      have HK2 : Hid (zt1 p (k + 1) = false) := by show _ = _; rw [HG.out, HK.out, n2]; rfl
      have HO2 : Hid (zt0 p (k + 1) = o) := by show _ = _; rw [HO.out, t1N, Bool.or_false]
      clear n1 n2
      cases o
      all_goals
       go_wp2
       go_round
       case rel => exact ⟨k + 1, by omega, by go_num, by rw [HO2.out], HK2⟩
       case measure => simp [intOf]; omega
     ·have t1 : decide ((128 : Int) <= (x : Int)) = false := jF (by omega)
      have t1N : decide (128 <= x) = false := jF (by omega)
      have t2 : decide ((65 : Int) <= (x : Int)) = true := jT (by omega)
      have t2N : decide (65 <= x) = true := jT (by omega)
      have t3 : decide ((x : Int) <= 90) = true := jT (by omega)
      have t3N : decide (x <= 90) = true := jT (by omega)
      have HE := jL (HBk.out n3)
      clear n1 n2 n3
      cases o
      all_goals
       go_wp2
       go_ret
       exact ⟨zbx HE.out.symm, hb⟩
     ·have t1 : decide ((128 : Int) <= (x : Int)) = false := jF (by omega)
      have t1N : decide (128 <= x) = false := jF (by omega)
      have t2 : decide ((65 : Int) <= (x : Int)) = true := jT (by omega)
      have t2N : decide (65 <= x) = true := jT (by omega)
      have t3 : decide ((x : Int) <= 90) = false := jF (by omega)
      have t3N : decide (x <= 90) = false := jF (by omega)
      have HK2 : Hid (zt1 p (k + 1) = false) := by show _ = _; rw [HG.out, HK.out, n3]; rfl
      have HO2 : Hid (zt0 p (k + 1) = o) := by show _ = _; rw [HO.out, t1N, Bool.or_false]
      clear n1 n2 n3
      cases o
      all_goals
       go_wp2
       go_round
       case rel => exact ⟨k + 1, by omega, by go_num, by rw [HO2.out], HK2⟩
       case measure => simp [intOf]; omega
     ·have t1 : decide ((128 : Int) <= (x : Int)) = true := jT (by omega)
      have t1N : decide (128 <= x) = true := jT (by omega)
      have t2 : decide ((65 : Int) <= (x : Int)) = true := jT (by omega)
      have t2N : decide (65 <= x) = true := jT (by omega)
      have t3 : decide ((x : Int) <= 90) = false := jF (by omega)
      have t3N : decide (x <= 90) = false := jF (by omega)
      have HK2 : Hid (zt1 p (k + 1) = false) := by show _ = _; rw [HG.out, HK.out, n3]; rfl
      have HO2 : Hid (zt0 p (k + 1) = true) := by show _ = _; rw [HO.out, t1N, Bool.or_true]
      clear n1 n3
      cases o
      all_goals
       go_wp2
       go_round
       case rel => exact ⟨k + 1, by omega, by go_num, by rw [HO2.out], HK2⟩
       case measure => simp [intOf]; omega
    ·obtain rfl : k = p.length := by omega
     have hkd : decide ((p.length : Int) < (p.length : Int)) = false := by simp
     have HR2 : Hid (R = (zt0 p p.length && q)) := by
      show _ = _
      rw [HR.out, HK.out]
      simp
     obtain ⟨o, ho⟩ : ∃ o, o = zt0 p p.length := ⟨_, rfl⟩
     rw [<- ho] at HR2 ⊢
     clear ho
     cases q <;> cases o
     all_goals
      go_wp2_with fail
      refine c2.mono ?_
      rintro e w2 ⟨rfl, hb2⟩
      go_wp2
      go_ret
      exact ⟨zbx (by rw [HR2.out]; rfl), hb.trans (hb2.mono hb.size)⟩
end

section
open Go.RowKit
set_option maxHeartbeats 16000000
theorem zte {s : ByteArray} (h : ¬ s.size = 0) : (ls s).isEmpty = false := by
 cases hl : ls s with
 | nil => exact absurd (by rw [<- zb4, hl]; rfl) h
 | cons _ _ => rfl
theorem ztf {s : ByteArray} (h : s.size = 0) : zs4 (ls s) = false := by
 have : ls s = [] := List.eq_nil_of_length_eq_zero (by rw [zb4]; exact h)
 rw [this]
 rfl
theorem ztg {s : ByteArray} (h : 63 < s.size) : zs4 (ls s) = false := by
 unfold zs4 zs3
 rw [zb4, jF (p := s.size <= 63) (by omega)]
 simp
def zth (l : List UInt8) : Bool := l.all (fun b => okN b.toNat) && (decide (l.take 4 ≠ xnL) || zs2 (l.drop 4))
theorem zti {c : UInt8} : c = 45 ↔ c.toNat = 45 := by
 constructor
 ·rintro rfl; rfl
 ·intro h; exact UInt8.toNat_inj.1 h
theorem ztj {s : ByteArray} {y0 y1 : Nat} (h : 0 < s.size) (h0 : y0 = (s[0]'h).toNat) (h1 : y1 = (s[s.size - 1]'(by omega)).toNat) :
 ((y0 = 45 \/ y1 = 45) -> zs4 (ls s) = false) /\ ((y0 ≠ 45 /\ y1 ≠ 45 /\ s.size <= 63) -> zs4 (ls s) = zth (ls s)) := by
 have g0 : (ls s).head? = some (s[0]'h) := by rw [List.head?_eq_getElem?, zb7 s 0 h]
 have g1 : (ls s).getLast? = some (s[s.size - 1]'(by omega)) := by rw [List.getLast?_eq_getElem?, zb4, zb7 s _ (by omega)]
 have hne : ls s ≠ [] := by
  intro e
  have := zb4 s
  rw [e] at this
  simp at this
  omega
 have e : zs3 (ls s) = (decide (s.size <= 63) && decide (y0 ≠ 45) && decide (y1 ≠ 45)) := by
  unfold zs3
  rw [g0, g1, zb4, jT hne, Bool.true_and]
  congr 1
  ·congr 1
   rw [decide_eq_decide]
   rw [h0, ne_eq, ne_eq, Option.some.injEq, zti]
  ·rw [decide_eq_decide]
   rw [h1, ne_eq, ne_eq, Option.some.injEq, zti]
 refine ⟨?_, ?_⟩
 ·intro hh
  unfold zs4
  rw [e]
  rcases hh with hh | hh
  ·simp [hh]
  ·simp [hh]
 ·rintro ⟨a, b, c⟩
  unfold zs4 zth
  rw [e, jT a, jT b, jT c]
  simp
theorem ztk (y : Nat) : okN y = true ↔ (97 <= y /\ y <= 122) \/ (48 <= y /\ y <= 57) \/ y = 45 \/ y = 95 := by
 unfold okN
 simp only [Bool.or_eq_true, Bool.and_eq_true, decide_eq_true_eq, beq_iff_eq]
 omega
theorem ztl (y : Nat) : okN y = false ↔ ¬ ((97 <= y /\ y <= 122) \/ (48 <= y /\ y <= 57) \/ y = 45 \/ y = 95) := by
 rw [<- ztk, Bool.not_eq_true]
def okK (l : List UInt8) (k : Nat) : Bool := (l.take k).all (fun b => okN b.toNat)
theorem ztm (l : List UInt8) (k : Nat) (h : k < l.length) : okK l (k + 1) = (okK l k && okN (l[k]).toNat) := by
 unfold okK
 rw [List.take_succ_eq_append_getElem h, List.all_append]
 simp
theorem ztn {l : List UInt8} (k : Nat) (h : k < l.length) (hb : okN (l[k]).toNat = false) : zth l = false := by
 have : l.all (fun b => okN b.toNat) = false := by
  rw [List.all_eq_false]
  exact ⟨l[k], List.getElem_mem h, by rw [hb]; simp⟩
 unfold zth
 rw [this]
 rfl
theorem zto {l : List UInt8} (h : okK l l.length = true) : zth l = (decide (l.take 4 ≠ xnL) || zs2 (l.drop 4)) := by
 unfold okK at h
 rw [List.take_length] at h
 unfold zth
 rw [h, Bool.true_and]
theorem ztp {l : List UInt8} (h : l.length < 4) : decide (l.take 4 ≠ xnL) = true := by
 rw [decide_eq_true_iff]
 intro e
 have := congrArg List.length e
 rw [List.length_take] at this
 unfold xnL at this
 simp at this
 omega
end

end Go.Proofs.YtekaljeicfjkjaaGreatDoor
