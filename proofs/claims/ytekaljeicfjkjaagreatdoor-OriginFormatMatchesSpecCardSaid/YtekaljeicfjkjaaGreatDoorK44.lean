/-
Contracts of isASCII, cutBasic and smallestFrom of package punycode.
-/
import Derived.Test.YtekaljeicfjkjaaGreatDoorK29
import Derived.Test.YtekaljeicfjkjaaGreatDoorShelf
import Derived.Lib.LastIndexByte
import Derived.BigQuiet
namespace Go.Proofs.YtekaljeicfjkjaaGreatDoor
section
open Go.RowKit
set_option maxHeartbeats 16000000
theorem z05 (s : ByteArray) (hs : s.size <= 1000000000) (w : World) :
 Calls Tryz.prog 222 #[.string s] w fun e w' => e = .returned (.bool (!(ls s).any (fun b => decide (128 <= b.toNat)))) /\ w = w' := by
 obtain ⟨R, hR⟩ : ∃ R, R = (ls s).any (fun b => decide (128 <= b.toNat)) := ⟨_, rfl⟩
 rw [<- hR]
 have HR := jL hR
 clear hR
 go_enter Tryz.func222, Tryz.ntmps222
 go_wp2
 go_loop [6] (fun i => ∃ k : Nat, k <= s.size /\ i = .int .i64 k /\ Hid (R = ((ls s).drop k).any (fun b => decide (128 <= b.toNat)))) (fun i => s.size - (intOf i).toNat)
 case atStart => exact ⟨0, Nat.zero_le _, rfl, HR⟩
 case round =>
  obtain ⟨k, hk, rfl, HK⟩ := hrel
  by_cases hlt : k < s.size
  ·have hdr := zcc s k hlt
   have hlt2 : decide ((k : Int) < (s.size : Int)) = true := jT (by omega)
   by_cases h128 : 128 <= s[k].toNat
   ·have hd : decide ((128 : Int) <= (s[k].toNat : Int)) = true := jT (by omega)
    have hdN : decide (128 <= s[k].toNat) = true := jT h128
    have HE : Hid ((!R) = false) := by
     show _ = _
     rw [HK.out, hdr, List.any_cons, hdN, Bool.true_or]
     rfl
    clear hdr
    go_wp2
    go_ret
    exact ⟨zbx HE.out.symm, rfl⟩
   ·have hd : decide ((128 : Int) <= (s[k].toNat : Int)) = false := jF (by omega)
    have hdN : decide (128 <= s[k].toNat) = false := jF h128
    have HK2 : Hid (R = ((ls s).drop (k + 1)).any (fun b => decide (128 <= b.toNat))) := by
     show _ = _
     rw [HK.out, hdr, List.any_cons, hdN, Bool.false_or]
    clear hdr
    go_wp2
    go_round
    case rel => exact ⟨k + 1, by omega, by go_num, HK2⟩
    case measure => simp [intOf]; omega
  ·obtain rfl : k = s.size := by omega
   have hlt2 : decide ((s.size : Int) < (s.size : Int)) = false := by simp
   have HE : Hid ((!R) = true) := by
    show _ = _
    rw [HK.out, zcd]
    rfl
   go_wp2
   go_ret
   exact ⟨zbx HE.out.symm, rfl⟩
theorem z06 (t : List UInt8) (i : Nat) (hi : i < t.length) (h : t[i] = 45) (hn : ∀ b ∈ t.drop (i + 1), b ≠ 45) : zx7 t = i := by
 have e : t = t.take i ++ 45 :: t.drop (i + 1) := by
  rw [<- h, List.getElem_cons_drop, List.take_append_drop]
 unfold zx7
 rw [e, zx8, zx6, if_pos rfl, zx9 _ _ _ hn, List.length_take, Nat.zero_add]
 omega
theorem z07 (s : ByteArray) : (Lib.lastIndexByte s 45 = -1 /\ zx7 (ls s) = 0) \/ (Lib.lastIndexByte s 45 = (zx7 (ls s) : Int) /\ zx7 (ls s) < s.size) := by
 have hg : ∀ j (hj : j < s.size), ((s.data[j]!).toNat : Int) = 45 ↔ (ls s)[j]'(by rw [zb4]; exact hj) = 45 := by
  intro j hj
  have hj' : j < s.data.size := hj
  have e : s.data[j]! = (ls s)[j]'(by rw [zb4]; exact hj) := by
   rw [getElem!_pos s.data j hj']
   rfl
  rw [e]
  constructor
  ·intro h
   exact UInt8.toNat_inj.1 (by rw [show (45 : UInt8).toNat = 45 from rfl]; omega)
  ·intro h
   rw [h]
   rfl
 rcases Lib.lastIndexByte_spec s 45 with ⟨e, hn⟩ | ⟨i, hi, e, hc, hn⟩
 ·refine .inl ⟨e, ?_⟩
  unfold zx7
  refine zx9 _ _ _ ?_
  intro c hc h46
  obtain ⟨j, hj, rfl⟩ := List.getElem_of_mem hc
  rw [zb4] at hj
  exact hn j hj ((hg j hj).2 h46)
 ·have hcut : zx7 (ls s) = i := by
   refine z06 _ i (by rw [zb4]; exact hi) ((hg i hi).1 hc) ?_
   intro c hc h46
   obtain ⟨j, hj, rfl⟩ := List.getElem_of_mem hc
   rw [List.length_drop, zb4] at hj
   rw [List.getElem_drop] at h46
   exact hn (i + 1 + j) (by omega) (by omega) ((hg _ (by omega)).2 h46)
  exact .inr ⟨by rw [hcut]; exact e, by rw [hcut]; exact hi⟩
theorem z08 (s : ByteArray) (hs : s.size <= 1000000000) (w : World) :
 Calls Tryz.prog 223 #[.string s] w fun e w' => (∃ k : Nat, e = .returned (.tuple #[.string (bs ((ls s).take (zx7 (ls s)))), .string (bs (zyc (ls s)))]) /\ w' = w.drewN k) := by
 have c1 := fun W => Any.strings_LastIndexByte Tryz.lays149 s 45 (by omega) W
 obtain ⟨x, hx⟩ : ∃ x, x = Lib.lastIndexByte s 45 := ⟨_, rfl⟩
 have hcut := z07 s
 rw [<- hx] at c1 hcut
 by_cases h0 : 0 < x
 ·rcases hcut with ⟨h1, _⟩ | ⟨h1, h2⟩
  ·omega
  ·obtain ⟨C, hC⟩ : ∃ C, C = zx7 (ls s) := ⟨_, rfl⟩
   rw [<- hC] at h1 h2 ⊢
   subst h1
   have hr : zyc (ls s) = (ls s).drop (C + 1) := by unfold zyc; rw [<- hC, if_pos (by omega)]
   rw [hr]
   have e1 : Hid (bs ((ls s).take C) = s.extract 0 C) := by
    show _ = _
    refine zb2 ?_
    rw [zb0, zb9, List.drop_zero, Nat.sub_zero]
   have e2 : Hid (bs ((ls s).drop (C + 1)) = s.extract (C + 1) s.size) := by
    show _ = _
    refine zb2 ?_
    rw [zb0, zb9]
    exact (List.take_of_length_le (by rw [List.length_drop, zb4]; exact jH)).symm
   have hd : decide ((0 : Int) < (C : Int)) = true := jT (by omega)
   have hdN : decide (0 < C) = true := jT (by omega)
   have hi0 : (0 : Int) <= (C : Int) := by omega
   have hi1 : (C : Int) <= (s.size : Int) := by omega
   have hi2 : (C : Int) + 1 <= (s.size : Int) := by omega
   rw [e1.out, e2.out]
   clear hx hC hr
   go_enter Tryz.func223, Tryz.ntmps223
   go_wp2_with fail
   refine (c1 _).mono ?_
   rintro e w' ⟨rfl, rfl⟩
   go_wp2_with fail
   go_quiet (fail)
   go_wp2
   go_ret2
   exact ⟨_, rfl, rfl⟩
 ·have hC : zx7 (ls s) = 0 := by
   rcases hcut with ⟨_, h2⟩ | ⟨h1, _⟩
   ·exact h2
   ·omega
  have hr : zyc (ls s) = ls s := by unfold zyc; rw [if_neg (by omega)]
  rw [hr, hC, List.take_zero, zb1]
  have hd : decide ((0 : Int) < x) = false := jF h0
  clear hx hC hr hcut
  go_enter Tryz.func223, Tryz.ntmps223
  go_wp2_with fail
  refine (c1 _).mono ?_
  rintro e w' ⟨rfl, rfl⟩
  go_wp2_with fail
  go_ret2
  exact ⟨0, rfl, rfl⟩
theorem z09 (n0 : Nat) (_hn : n0 <= 1114112) (P : List Nat) (hP : ∀ p ∈ P, ptN p = true) (hl : P.length <= 256) (A : Option Addr) (cap B : Nat) (w wr : World) (hA : Has w B A P.length (P.map iv)) (hb : Below w.heap.size w wr) (hB : B <= w.heap.size) :
 Calls Tryz.prog 203 #[.int .i64 (n0 : Int), .slice A P.length cap] wr fun e w' => e = .returned (.int .i64 (min 1114111 (zy1 n0 P) : Nat)) /\ wr = w' := by
 obtain ⟨R, hR⟩ : ∃ R, R = min 1114111 (zy1 n0 P) := ⟨_, rfl⟩
 rw [<- hR]
 have HR := jL hR
 have HP := jL hP
 have H := jL hA
 clear hR hP hA
 go_enter Tryz.func203, Tryz.ntmps203
 go_wp2
 go_loop [5, 10] (fun l i => ∃ (k v : Nat), k <= P.length /\ i = .int .i64 k /\ l = .int .i64 v /\ v <= 1114111 /\ Hid (min v (zy1 n0 (P.drop k)) = R)) (fun _ i => P.length - (intOf i).toNat)
 case atStart => exact ⟨0, 1114111, Nat.zero_le _, rfl, rfl, jH, jL HR.out.symm⟩
 case round =>
  obtain ⟨k, v, hk, rfl, rfl, hv, HV⟩ := hrel
  by_cases hlt2 : k < P.length
  ·obtain ⟨b1, o1, rfl, l1, d1⟩ := H.out.2 (by omega)
   have g1 := zxm H.out hb hB k hlt2 hlt2
   have hple : P[k] <= 1114111 := zzo (HP.out _ (List.getElem_mem hlt2))
   have hdr : P.drop k = P[k] :: P.drop (k + 1) := List.drop_eq_getElem_cons hlt2
   obtain ⟨p, hp⟩ : ∃ p, p = P[k] := ⟨_, rfl⟩
   rw [<- hp] at g1 hple hdr
   have hkd : decide ((k : Int) < (P.length : Int)) = true := jT (by omega)
   clear d1 hp
   by_cases hge : n0 <= p
   ·have hgd : decide ((n0 : Int) <= (p : Int)) = true := jT (by omega)
    have hgN : decide (n0 <= p) = true := jT hge
    obtain ⟨v2, hv2⟩ : ∃ v2 : Nat, v2 = min v p := ⟨_, rfl⟩
    have hmi : min (v : Int) (p : Int) = (v2 : Int) := by rw [hv2]; omega
    have hmin : ∀ (W : World) ts ty, (Builtin.min_ ts ty #[.int .i64 (v : Int), .int .i64 (p : Int)]).run Tryz.prog W = .ok (.int .i64 (v2 : Int)) W := fun W ts ty => zu3 W ts ty _ _ _ hmi
    have HV2 : Hid (min v2 (zy1 n0 (P.drop (k + 1))) = R) := by
     show _ = _
     have := HV.out
     rw [hdr, zy1, if_pos hge] at this
     rw [hv2, Nat.min_assoc]
     exact this
    have hv2b : v2 <= 1114111 := by rw [hv2]; exact Nat.le_trans (Nat.min_le_left _ _) hv
    clear hmi hv2 hdr hge
    go_wp2
    go_round
    case rel => exact ⟨k + 1, v2, by omega, by go_num, rfl, hv2b, HV2⟩
    case measure => simp [intOf]; omega
   ·have hgd : decide ((n0 : Int) <= (p : Int)) = false := jF (by omega)
    have hgN : decide (n0 <= p) = false := jF hge
    have HV2 : Hid (min v (zy1 n0 (P.drop (k + 1))) = R) := by
     show _ = _
     have := HV.out
     rw [hdr, zy1, if_neg hge] at this
     exact this
    clear hdr
    go_wp2
    go_round
    case rel => exact ⟨k + 1, v, by omega, by go_num, rfl, hv, HV2⟩
    case measure => simp [intOf]; omega
  ·obtain rfl : k = P.length := by omega
   have hvm : Hid ((v : Int) = (R : Int)) := by
    show _ = _
    have := HV.out
    rw [List.drop_length, zy1, Nat.min_eq_left (by omega)] at this
    rw [this]
   have hkd : decide ((P.length : Int) < (P.length : Int)) = false := by simp
   go_wp2
   go_ret
   exact ⟨zby hvm.out, rfl⟩
end

end Go.Proofs.YtekaljeicfjkjaaGreatDoor
