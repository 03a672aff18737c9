/-
The reference's decode of layer 14.
Contract of ParseNumbers of the reference of layer 10.
-/
import Derived.Test.YtekaljeicfjkjaaGreatDoorJ32
import Derived.Test.YtekaljeicfjkjaaGreatDoorJ27
namespace Go.Proofs.YtekaljeicfjkjaaGreatDoor
section
open Go.RowKit
set_option maxHeartbeats 16000000
theorem zix {P : Program} {md : Region.Mode} {ops : Array Oper} {Q' : Exit -> Act -> World -> Prop} {listed : Array Bool} {a : Act} {w : World} {n : Nat} (k : Nat) (hn : k + n = ops.size) (hB : Region.seqB md ops n k listed = true)
 (h : wpList P ops Q' (ops.toList.drop k) a w) : wpAny P md ops Q' n listed a w := by
 have hl : (ops.toList.drop k).length = n := by simp; omega
 have := wpAny_of_seq (ops.toList.drop k) k listed a w (fun j => by simp) (by rw [hl]; exact hB) h
 rwa [hl] at this
set_option maxRecDepth 20000 in
theorem ziy (s : ByteArray) (hs : s.size <= 100000000) (w : World) : Calls Tryz.prog 89 #[.string s] w fun e w' =>
 e = .returned (.tuple #[.string (bs ((zgz (ls s)).getD [])), .bool (zgz (ls s)).isSome]) /\ Below w.heap.size w w' := by
 obtain ⟨i5, hi5, hz0, hz1, hz2⟩ := info_parts z3f
 have hP0 : zds (zgz (ls s)) [] (ls s) := by
  unfold zds
  cases zgz (ls s) <;> rfl
 generalize zgz (ls s) = V at *
 have HP0 := jL hP0
 clear hP0
 go_enter Tryz.func89, Tryz.ntmps89
 go_wp2
 go_loopg [4, 5] (s.size + 1) (fun g tv iv wr => ∃ (k : Nat) (acc : List UInt8), k <= s.size /\ g = s.size + 1 - k /\ iv = .int .i64 k /\ acc.length <= k /\ Hid (zds V acc ((ls s).drop k)) /\ wr.ownsRow w.heap.size 5 1 tv acc.length (acc.map bv) /\ Below w.heap.size w wr)
 case atStart => exact ⟨0, [], Nat.zero_le _, by omega, rfl, jH, jL (by rw [List.drop_zero]; exact HP0.out), World.ownsRow_nil _ _ _ _, Below.refl _ _⟩
 case round =>
  obtain ⟨k, acc, hk, hg, rfl, hal, HP, hown, hb⟩ := hrel
  have HG := jL hg
  clear hg
  by_cases hlt : k < s.size
  ·have hdrop := zcc s k hlt
   have hHP := HP.out
   rw [hdrop] at hHP
   by_cases h37 : s[k] = 37
   ·have hq' : ((s[k].toNat : Int) == 37) = true := by rw [h37]; rfl
    have hq : (!((s[k].toNat : Int) == 37)) = false := by rw [hq']; rfl
    rw [h37] at hHP
    by_cases h3 : k + 3 <= s.size
    ·have d3 : decide ((s.size : Int) - (k : Int) < 3) = false := jF (by omega)
     have e2 : (ls s).drop (k + 1) = s[k + 1] :: s[k + 2] :: (ls s).drop (k + 3) := by
      rw [zcc s (k + 1) (by omega), zcc s (k + 2) (by omega)]
     have c1 := fun W => zit s[k + 1] W
     have c2 := fun W => zit s[k + 2] W
     rw [e2] at hHP
     have he := ziu s[k + 1] s[k + 2] ((ls s).drop (k + 3))
     have hk1 : k + 1 < s.size := by omega
     have hk2 : k + 2 < s.size := by omega
     by_cases hd1 : zph s[k + 1] < 16
     ·by_cases hd2 : zph s[k + 2] < 16
      ·rw [if_pos ⟨hd1, hd2⟩] at he
       have HN := jL (zdv hHP he)
       rw [ziw hd1] at c1
       rw [ziw hd2] at c2
       obtain ⟨v1, hv1⟩ : ∃ v, v = zph s[k + 1] := ⟨_, rfl⟩
       obtain ⟨v2, hv2⟩ : ∃ v, v = zph s[k + 2] := ⟨_, rfl⟩
       rw [<- hv1] at hd1
       rw [<- hv2] at hd2
       simp only [<- hv1] at c1
       simp only [<- hv2] at c2
       rw [<- hv1, <- hv2] at HN
       have d4 : decide ((v1 : Int) < 0) = false := jF (by omega)
       have d5 : decide ((v2 : Int) < 0) = false := jF (by omega)
       have HB8 : Hid (bv (UInt8.ofNat (16 * v1 + v2)) = .int .u8 (16 * (v1 : Int) + (v2 : Int))) := by
        show _ = _
        rw [zcf]
        simp
        omega
       clear hv1 hv2 he e2 hHP hdrop h37 HP
       go_wp2_with (go_at_call 118; (first | (with_reducible refine (c1 _).mono ?_) | (with_reducible refine (c2 _).mono ?_)); rintro e w2 ⟨rfl, rfl⟩)
       have hw1 : IntKind.i64.wrap ((k : Int) + 1) = (k : Int) + 1 := by rw [IntKind.wrap_i64]; omega
       have hw2 : IntKind.i64.wrap ((k : Int) + 2) = (k : Int) + 2 := by rw [IntKind.wrap_i64]; omega
       have hw3 : IntKind.i64.wrap (16 * (v1 : Int)) = 16 * (v1 : Int) := by rw [IntKind.wrap_i64]; omega
       have hw4 : IntKind.i64.wrap (16 * (v1 : Int) + (v2 : Int)) = 16 * (v1 : Int) + (v2 : Int) := by rw [IntKind.wrap_i64]; omega
       have hw5 : IntKind.u8.wrap (16 * (v1 : Int) + (v2 : Int)) = 16 * (v1 : Int) + (v2 : Int) := by unfold IntKind.wrap; simp [IntKind.bits, IntKind.signed]; omega
       refine wp_region_any (by kernel_rfl) ?_
       refine wpAny_take (i := 0) (v := u4) rfl (by kernel_rfl) (by kernel_rfl) (by kernel_rfl) (fun _ _ _ h => h) (Or.inl ⟨by rfl, by intro w; go_simp; try with_reducible rfl⟩) ?_
       refine wpAny_take (i := 1) (v := .string s) rfl (by kernel_rfl) (by kernel_rfl) (by kernel_rfl) (fun _ _ _ h => h) (Or.inl ⟨by rfl, by intro w; go_simp; try with_reducible rfl⟩) ?_
       refine wpAny_take (i := 2) (v := .int .i64 (k : Int)) rfl (by kernel_rfl) (by kernel_rfl) (by kernel_rfl) (fun _ _ _ h => h) (Or.inl ⟨by rfl, by intro w; go_simp; try with_reducible rfl⟩) ?_
       refine wpAny_take (i := 3) (v := .int .i64 ((k : Int) + 1)) rfl (by kernel_rfl) (by kernel_rfl) (by kernel_rfl) (fun _ _ _ h => h) (Or.inl ⟨by rfl, by intro w; go_simp; try with_reducible rfl⟩) ?_
       refine wpAny_take (i := 4) (v := .int .u8 (s[k + 1].toNat : Int)) rfl (by kernel_rfl) (by kernel_rfl) (by kernel_rfl) (fun _ _ _ h => h) (Or.inl ⟨by rfl, by intro w; go_simp; try with_reducible rfl⟩) ?_
       refine wpAny_take (i := 7) (v := .string s) rfl (by kernel_rfl) (by kernel_rfl) (by kernel_rfl) (fun _ _ _ h => h) (Or.inl ⟨by rfl, by intro w; go_simp; try with_reducible rfl⟩) ?_
       refine wpAny_take (i := 8) (v := .int .i64 (k : Int)) rfl (by kernel_rfl) (by kernel_rfl) (by kernel_rfl) (fun _ _ _ h => h) (Or.inl ⟨by rfl, by intro w; go_simp; try with_reducible rfl⟩) ?_
       refine wpAny_take (i := 9) (v := .int .i64 ((k : Int) + 2)) rfl (by kernel_rfl) (by kernel_rfl) (by kernel_rfl) (fun _ _ _ h => h) (Or.inl ⟨by rfl, by intro w; go_simp; try with_reducible rfl⟩) ?_
       refine wpAny_take (i := 10) (v := .int .u8 (s[k + 2].toNat : Int)) rfl (by kernel_rfl) (by kernel_rfl) (by kernel_rfl) (fun _ _ _ h => h) (Or.inl ⟨by rfl, by intro w; go_simp; rfl⟩) ?_
       refine wpAny_ready (rs := [5]) (by kernel_rfl) (by simp) ?_
       refine AllReady.cons rfl (fun K hK => ?_) AllReady.nil
       go_simp
       go_wp2_with fail
       refine (c1 _).mono ?_
       rintro e w9 ⟨rfl, rfl⟩
       refine hK _ _ ?_
       clear hK K
       refine wpAny_take (i := 6) (v := .int .i64 (16 * (v1 : Int))) rfl (by kernel_rfl) (by kernel_rfl) (by kernel_rfl) (fun _ _ _ h => h) (Or.inl ⟨by rfl, by intro w; go_simp; try with_reducible rfl⟩) ?_
       refine wpAny_ready (rs := [11]) (by kernel_rfl) (by simp) ?_
       refine AllReady.cons rfl (fun K hK => ?_) AllReady.nil
       go_simp
       go_wp2_with fail
       refine (c2 _).mono ?_
       rintro e w9 ⟨rfl, rfl⟩
       refine hK _ _ ?_
       clear hK K
       refine wpAny_take (i := 12) (v := .int .i64 (16 * (v1 : Int) + (v2 : Int))) rfl (by kernel_rfl) (by kernel_rfl) (by kernel_rfl) (fun _ _ _ h => h) (Or.inl ⟨by rfl, by intro w; go_simp; try with_reducible rfl⟩) ?_
       refine wpAny_take (i := 13) (v := .int .u8 (16 * (v1 : Int) + (v2 : Int))) rfl (by kernel_rfl) (by kernel_rfl) (by kernel_rfl) (fun _ _ _ h => h) (Or.inl ⟨by rfl, by intro w; go_simp; try with_reducible rfl⟩) ?_
       refine zix 14 rfl (by kernel_rfl) ?_
       simp only [List.drop_succ_cons, List.drop_zero]
       clear hw1 hw2 hw3 hw4 hw5
       change wpList _ _ _ _ _ (World.drew _)
       have hown2 : (World.drew wr).ownsRow w.heap.size 5 1 u4 acc.length (acc.map bv) := hown
       have hbd := hb.drew
       generalize World.drew wr = w9 at *
       have hl9 : acc.length <= 100000000 := by omega
       go_wp2_with (at_builtin; refine zcq _ rfl _ _ 72 rfl w.heap.size 5 i5 (.int .u8 0) 1 z3c hi5 hz0 hz1 hz2 rfl _ (by exact rfl) _ _ _ (by exact rfl) hown2 (by exact rfl) (by unfold maxLen; omega) (by omega) hbd jH ?_; intro v' w1' hown' hb' _)
       go_roundg (s.size + 1 - (k + 3))
       case rel =>
        refine ⟨k + 3, acc ++ [UInt8.ofNat (16 * v1 + v2)], h3, rfl, by go_num, by rw [List.length_append, List.length_singleton]; omega, HN, ?_, hb'⟩
        have e9 : (acc ++ [UInt8.ofNat (16 * v1 + v2)]).map bv = acc.map bv ++ [.int .u8 (16 * (v1 : Int) + (v2 : Int))] := by rw [List.map_append, <- HB8.out]; rfl
        rw [e9, List.length_append, List.length_singleton]
        exact hown'
       case measure => rw [HG.out]; omega
      ·rw [if_neg (fun h => hd2 h.2)] at he
       have HV := jL (zdu hHP he)
       rw [ziw hd1] at c1
       rw [ziv hd2] at c2
       obtain ⟨v1, hv1⟩ : ∃ v, v = zph s[k + 1] := ⟨_, rfl⟩
       simp only [<- hv1] at c1
       have d4 : decide ((v1 : Int) < 0) = false := jF (by omega)
       clear hv1 he e2 hHP hdrop h37 HP hd1 hd2
       go_wp2_with (go_at_call 118; (first | (with_reducible refine (c1 _).mono ?_) | (with_reducible refine (c2 _).mono ?_)); rintro e w2 ⟨rfl, rfl⟩)
       go_ret2
       rw [HV.out]
       exact ⟨rfl, hb⟩
     ·rw [if_neg (fun h => hd1 h.1)] at he
      have HV := jL (zdu hHP he)
      rw [ziv hd1] at c1
      clear c2 he e2 hHP hdrop h37 HP hd1
      go_wp2_with (go_at_call 118; refine (c1 _).mono ?_; rintro e w2 ⟨rfl, rfl⟩)
      go_ret2
      rw [HV.out]
      exact ⟨rfl, hb⟩
    ·have d3 : decide ((s.size : Int) - (k : Int) < 3) = true := jT (by omega)
     have HV := jL (zdu hHP (zdp (by rw [List.length_drop, zb4]; omega)))
     clear hHP hdrop h37 HP
     go_wp2
     go_ret2
     rw [HV.out]
     exact ⟨rfl, hb⟩
   ·have hq' : ((s[k].toNat : Int) == 37) = false := zqs h37
    have hq : (!((s[k].toNat : Int) == 37)) = true := by rw [hq']; rfl
    have HN := jL (zdt hHP h37)
    have hl9 : acc.length <= 100000000 := by omega
    clear hHP hdrop h37 HP
    go_wp2_with (at_builtin; refine zcq _ rfl _ _ 72 rfl w.heap.size 5 i5 (.int .u8 0) 1 z3c hi5 hz0 hz1 hz2 rfl _ (by exact rfl) _ _ _ (by exact rfl) hown (by exact rfl) (by unfold maxLen; omega) (by omega) hb jH ?_; intro v' w1' hown' hb' _)
    go_roundg (s.size + 1 - (k + 1))
    case rel =>
     refine ⟨k + 1, acc ++ [s[k]], by omega, rfl, by go_num, by rw [List.length_append, List.length_singleton]; omega, HN, ?_, hb'⟩
     have e9 : (acc ++ [s[k]]).map bv = acc.map bv ++ [.int .u8 (s[k].toNat : Int)] := by rw [List.map_append]; rfl
     rw [e9, List.length_append, List.length_singleton]
     exact hown'
    case measure => rw [HG.out]; omega
  ·obtain rfl : k = s.size := by omega
   have hHP := HP.out
   rw [zcd] at hHP
   have HV := jL (zdw hHP)
   have hconv := z3h wr w.heap.size acc.length u4 acc hown
   clear hHP
   go_wp2
   go_ret2
   rw [HV.out]
   exact ⟨rfl, hb⟩
end

section
open Go.RowKit
set_option maxHeartbeats 16000000
theorem zpa (x : List UInt8) (i acc : Nat) : zpo [x] i acc = match zpl x with
 | none => none
 | some n => if n < 256 ^ (4 - i) then some (acc + n) else none := rfl
theorem zpb (x y : List UInt8) (r : List (List UInt8)) (i acc : Nat) : zpo (x :: y :: r) i acc = match zpl x with
 | none => none
 | some n => if n <= 255 then zpo (y :: r) (i + 1) (acc + n * 256 ^ (3 - i)) else none := rfl
theorem zpc {x : List UInt8} (h : zpl x = none) : nV x = 0 /\ nK x = false := by unfold nV nK; rw [h]; exact ⟨rfl, rfl⟩
theorem zpd {x : List UInt8} {n : Nat} (h : zpl x = some n) : nV x = (zok n : Nat) /\ nK x = true := by unfold nV nK; rw [h]; exact ⟨rfl, rfl⟩
theorem zpe (k : Nat) : (256 : Int) ^ k = 2 ^ (8 * k) := by
 rw [Int.pow_mul, show (2 : Int) ^ 8 = 256 by decide]
set_option maxRecDepth 20000 in
theorem zpf (s : ByteArray) (w : World) (hs : s.size <= 1000000000) :
 Calls Tryz.prog 91 #[.string s] w fun e w' => e = .returned (.tuple #[.int .u32 (aV (pnL (ls s))), .bool (aK (pnL (ls s)))]) /\ Below w.heap.size w w' := by
 have hpar := zoj s w hs
 have hpos := zo4 (ls s)
 have hlen := zo5 (ls s)
 have hsz := zo7 (ls s)
 have HP : Hid (pnL (ls s) = if 4 < (zpg (ls s)).length then none else zpo (zpg (ls s)) 0 0) := jL rfl
 rw [zb4] at hlen hsz
 generalize zpg (ls s) = P at *
 obtain ⟨m, hm⟩ : ∃ n, n = P.length := ⟨_, rfl⟩
 unfold z24 at hpar
 rw [<- hm] at hpar hpos HP hlen
 have HM := jL hm
 have HSZ := jL hsz
 clear hm hsz
 by_cases h4 : 4 < m
 ·have hd : decide ((4 : Int) < (m : Int)) = true := jT (by omega)
  have HQ : Hid (pnL (ls s) = none) := by show _ = _; rw [HP.out, if_pos h4]
  clear HP
  go_enter Tryz.func91, Tryz.ntmps91
  go_wp2_with fail
  refine hpar.mono ?_
  rintro e w1 ⟨A, c, rfl, hmc, hh, hb⟩
  go_wp2
  go_ret2
  exact ⟨by rw [HQ.out]; rfl, hb⟩
 ·have hd : decide ((4 : Int) < (m : Int)) = false := jF (by omega)
  have hm4 : m <= 4 := by omega
  have HQ : Hid (pnL (ls s) = zpo P 0 0) := by show _ = _; rw [HP.out, if_neg h4]
  clear HP h4
  go_enter Tryz.func91, Tryz.ntmps91
  go_wp2_with fail
  refine hpar.mono ?_
  rintro e w1 ⟨A, c, rfl, hmc, hh, hb⟩
  have HH := jL hh
  obtain ⟨b, off, rfl, _⟩ := z25 hh 0 hpos
  clear hpar hh
  go_wp2
  go_loopw [5, 6] (fun v i wr => ∃ (k : Nat) (z : Int), k <= m /\ i = .int .i64 k /\ v = .int .i64 z /\ 0 <= z /\ z <= 4294967295 /\ Hid (k < m -> z + 256 ^ (4 - k) <= 4294967296) /\ Hid (zpo (P.drop k) k z.toNat = pnL (ls s)) /\ Below w1.heap.size w1 wr) (fun _ i _ => m - (intOf i).toNat)
  case atStart => exact ⟨0, 0, Nat.zero_le _, rfl, rfl, by omega, by omega, jL (fun _ => by decide), jL HQ.out.symm, Below.refl _ _⟩
  case round =>
   obtain ⟨k, z, hk, rfl, rfl, hz0, hz1, HZ, HR, hb2⟩ := hrel
   by_cases hlt : k < m
   ·obtain ⟨b', off', e, hcell⟩ := z25 (HH.out.below hb2) k hlt
    injection e with e
    injection e with e1 e2 _
    subst e1 e2
    have hkP : k < P.length := by rw [<- HM.out]; exact hlt
    have c1 := zow (bs (P.getD k []))
    rw [zb0, zb5] at c1
    have hxs : (P.getD k []).length <= 1000000000 := by have := HSZ.out _ (zo8 P k [] hkP); omega
    have hdr : P.drop k = P.getD k [] :: P.drop (k + 1) := by
     rw [List.drop_eq_getElem_cons hkP, List.getD_eq_getElem?_getD, List.getElem?_eq_getElem hkP, Option.getD_some]
    have HR2 := HR.out
    rw [hdr] at HR2
    generalize P.getD k [] = x at *
    have HX := jL HR2
    have c2 := fun W => c1 W hxs
    obtain ⟨X, hX⟩ : ∃ X, X = bs x := ⟨_, rfl⟩
    rw [<- hX] at c2 hcell
    clear c1 HR2 hdr HR hX hxs hkP
    have hlast : ((k : Int) == (m : Int) - 1) = decide (k + 1 = m) := by
     apply Bool.eq_iff_iff.2
     simp only [beq_iff_eq, decide_eq_true_eq]
     omega
    cases hx : zpl x with
    | none =>
      obtain ⟨e1, e2⟩ := zpc hx
      have HY : Hid (pnL (ls s) = none) := by
       show _ = _
       have := HX.out
       cases hr : P.drop (k + 1) with
       | nil => rw [hr, zpa, hx] at this; exact this.symm
       | cons y r => rw [hr, zpb, hx] at this; exact this.symm
      rw [e1, e2] at c2
      clear hx e1 e2 hlast
      go_wp2_with (go_at_call 121; refine (c2 _).mono ?_; rintro e w3 ⟨rfl, hb3⟩)
      go_ret2
      exact ⟨by rw [HY.out]; rfl, hb.trans ((hb2.trans (hb3.mono hb2.size)).mono hb.size)⟩
    | some n =>
      obtain ⟨e1, e2⟩ := zpd hx
      have hsat := zom n
      obtain ⟨nv', hnv⟩ : ∃ v : Int, v = (zok n : Nat) := ⟨_, rfl⟩
      rw [<- hnv] at e1
      have hn0 : 0 <= nv' := by omega
      have hn1 : nv' <= 1099511627776 := by omega
      rw [e1, e2] at c2
      by_cases hl : k + 1 = m
      ·rw [jT hl] at hlast
       have HY : Hid (pnL (ls s) = if n < 256 ^ (4 - k) then some (z.toNat + n) else none) := by
        show _ = _
        have := HX.out
        have hd0 : P.drop (k + 1) = [] := List.drop_of_length_le (by rw [<- HM.out]; omega)
        rw [hd0, zpa, hx] at this
        exact this.symm
       obtain ⟨K, hK⟩ : ∃ K : Nat, K = 8 * (4 - k) := ⟨_, rfl⟩
       have hKm : (8 : Int) * (5 - (m : Int)) = (K : Int) := by omega
       have hK32 : K <= 32 := by omega
       have hpK : (2 : Nat) ^ K = 256 ^ (4 - k) := by rw [hK, Nat.pow_mul]
       have hp32 : (2 : Nat) ^ K <= 2 ^ 32 := Nat.pow_le_pow_right (by decide) hK32
       have h232 : (2 : Nat) ^ 32 = 4294967296 := by decide
       have hp1 : 0 < (2 : Nat) ^ K := Nat.pow_pos (by decide)
       obtain ⟨pw, hpw⟩ : ∃ q : Int, (2 : Int) ^ K = q := ⟨_, rfl⟩
       have hpwn : pw = ((2 ^ K : Nat) : Int) := by rw [<- hpw, Int.natCast_pow]; rfl
       have HPW : Hid (pw = ((256 ^ (4 - k) : Nat) : Int)) := by show _ = _; rw [hpwn, hpK]
       have hpw0 : 0 <= pw := by omega
       have hpw1 : pw <= 4294967296 := by omega
       by_cases hge : pw <= nv'
       ·have hdg : decide (pw <= nv') = true := jT hge
        have HYN : Hid (pnL (ls s) = none) := by
         show _ = _
         rw [HY.out, if_neg]
         intro h
         have h1 := (zon n (256 ^ (4 - k)) (by have := HPW.out; omega)).2 h
         have h2 := HPW.out
         omega
        clear hx e1 e2 hnv hsat hK hpK hp32 h232 hp1 hpwn
        go_wp2_with (go_at_call 121; refine (c2 _).mono ?_; rintro e w3 ⟨rfl, hb3⟩)
        go_ret2
        exact ⟨by rw [HYN.out]; rfl, hb.trans ((hb2.trans (hb3.mono hb2.size)).mono hb.size)⟩
       ·have hdg : decide (pw <= nv') = false := jF hge
        have hnn : nv' = (n : Int) /\ n < 256 ^ (4 - k) := by
         have h1 := HPW.out
         have h2 : zok n < 256 ^ (4 - k) := by omega
         have h3 := (zon n (256 ^ (4 - k)) (by omega)).1 h2
         refine ⟨?_, h3⟩
         rw [hnv, zoo n (by omega)]
        have HYN : Hid (zpo (P.drop (k + 1)) (k + 1) (z + nv').toNat = pnL (ls s)) := by
         show _ = _
         have hd0 : P.drop (k + 1) = [] := List.drop_of_length_le (by rw [<- HM.out]; omega)
         rw [HY.out, if_pos hnn.2, hd0]
         show some _ = some _
         congr 1
         have := hnn.1
         omega
        have hzn : z + nv' <= 4294967295 := by
         have h1 := HZ.out hlt
         have h2 := HPW.out
         rw [Int.natCast_pow] at h2
         have h3 : ((256 : Nat) : Int) = 256 := rfl
         rw [h3] at h2
         omega
        clear hx e1 e2 hnv hsat hK hpK hp32 h232 hp1 hpwn hnn
        go_wp2_with (go_at_call 121; refine (c2 _).mono ?_; rintro e w3 ⟨rfl, hb3⟩)
        go_roundw
        case rel => exact ⟨k + 1, z + nv', by omega, by go_num, by first | rfl | go_num, by omega, hzn, jL (fun h => by omega), HYN, hb2.trans (hb3.mono hb2.size)⟩
        case measure => simp [intOf]; omega
      ·rw [jF hl] at hlast
       have HY : Hid (pnL (ls s) = if n <= 255 then zpo (P.drop (k + 1)) (k + 1) (z.toNat + n * 256 ^ (3 - k)) else none) := by
        show _ = _
        have := HX.out
        have hd1 : 0 < (P.drop (k + 1)).length := by simp; have := HM.out; omega
        cases hr : P.drop (k + 1) with
        | nil => rw [hr] at hd1; simp at hd1
        | cons y r => rw [hr, zpb, hx] at this; exact this.symm
       by_cases hge : (255 : Int) < nv'
       ·have hdg : decide ((255 : Int) < nv') = true := jT hge
        have HYN : Hid (pnL (ls s) = none) := by
         show _ = _
         rw [HY.out, if_neg]
         intro h
         rw [zoo n (by omega)] at hnv
         omega
        clear hx e1 e2 hnv hsat
        go_wp2_with (go_at_call 121; refine (c2 _).mono ?_; rintro e w3 ⟨rfl, hb3⟩)
        go_ret2
        exact ⟨by rw [HYN.out]; rfl, hb.trans ((hb2.trans (hb3.mono hb2.size)).mono hb.size)⟩
       ·have hdg : decide ((255 : Int) < nv') = false := jF hge
        have hnn : nv' = (n : Int) /\ n <= 255 := by
         have h1 : n <= 255 := by
          rcases Nat.lt_or_ge 255 n with h | h
          ·have : 255 < zok n := by unfold zok; omega
           omega
          ·exact h
         exact ⟨by rw [hnv, zoo n (by omega)], h1⟩
        obtain ⟨K, hK⟩ : ∃ K : Nat, K = 8 * (3 - k) := ⟨_, rfl⟩
        have hKm : (24 : Int) - 8 * (k : Int) = (K : Int) := by omega
        have hK24 : K <= 24 := by omega
        obtain ⟨y, hy⟩ : ∃ y : Int, y = nv' * 2 ^ K := ⟨_, rfl⟩
        have hpK : (2 : Int) ^ K = 256 ^ (3 - k) := by rw [hK, zpe]
        have hp24 : (2 : Int) ^ K <= 16777216 := by
         have h1 : (2 : Nat) ^ K <= 2 ^ 24 := Nat.pow_le_pow_right (by decide) hK24
         have h2 : (2 : Nat) ^ 24 = 16777216 := by decide
         have h3 : (2 : Int) ^ K = ((2 ^ K : Nat) : Int) := by rw [Int.natCast_pow]; rfl
         omega
        have hp0 : (0 : Int) < 2 ^ K := Int.pow_pos (by decide)
        have hn255 : nv' <= 255 := by omega
        have hy0 : 0 <= y := by rw [hy]; exact Int.mul_nonneg hn0 (Int.le_of_lt hp0)
        have hy1 : y <= 255 * 2 ^ K := by rw [hy]; exact Int.mul_le_mul_of_nonneg_right hn255 (Int.le_of_lt hp0)
        have hyw : IntKind.i64.wrap (nv' * 2 ^ K) = y := by rw [<- hy, IntKind.wrap_i64]; omega
        have hzy : z + y + 256 ^ (4 - (k + 1)) <= 4294967296 := by
         have h1 := HZ.out hlt
         have h2 : (256 : Int) ^ (4 - k) = 256 * 2 ^ K := by
          rw [hpK, show 4 - k = (3 - k) + 1 by omega, Int.pow_succ, Int.mul_comm]
         rw [show 4 - (k + 1) = 3 - k by omega, <- hpK]
         rw [h2] at h1
         omega
        have hzy2 : z + y <= 4294967295 := by
         have h1 : (0 : Int) < 256 ^ (4 - (k + 1)) := Int.pow_pos (by decide)
         omega
        have HYN : Hid (zpo (P.drop (k + 1)) (k + 1) (z + y).toNat = pnL (ls s)) := by
         show _ = _
         rw [HY.out, if_pos hnn.2]
         congr 1
         have h1 : y = ((n * 256 ^ (3 - k) : Nat) : Int) := by
          rw [hy, hnn.1, hpK, Int.natCast_mul, Int.natCast_pow]; rfl
         omega
        have HZY := jL hzy
        have hy32 : y <= 4294967295 := by omega
        clear hx e1 e2 hnv hsat hK hy hpK hp24 hp0 hy1 hzy hnn
        go_wp2_with (go_at_call 121; refine (c2 _).mono ?_; rintro e w3 ⟨rfl, hb3⟩)
        go_roundw
        case rel => exact ⟨k + 1, z + y, by omega, by go_num, by first | rfl | go_num, by omega, hzy2, jL (fun _ => HZY.out), HYN, hb2.trans (hb3.mono hb2.size)⟩
        case measure => simp [intOf]; omega
   ·obtain rfl : k = m := by omega
    have HY : Hid (pnL (ls s) = some z.toNat) := by
     show _ = _
     have h := HR.out
     have hd : P.drop k = [] := List.drop_of_length_le (by rw [<- HM.out]; exact jH)
     rw [hd] at h
     exact h.symm
    have HZZ : Hid ((z.toNat : Int) = z) := jL (by omega)
    go_wp2
    go_ret2
    refine ⟨?_, hb.trans (hb2.mono hb.size)⟩
    rw [HY.out]
    unfold aV aK
    rw [Option.getD_some, HZZ.out]
    rfl
end

end Go.Proofs.YtekaljeicfjkjaaGreatDoor
