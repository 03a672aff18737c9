/-
Contracts of digit and leadingGroup of package ipv6.
Slices of arrays: a[l:h]. No program.
Contract of withGap of package ipv6.
-/
import Derived.Test.YtekaljeicfjkjaaGreatDoorK39
import Derived.Test.YtekaljeicfjkjaaGreatDoorK07
import Derived.Test.YtekaljeicfjkjaaGreatDoorK03
import Derived.Test.YtekaljeicfjkjaaGreatDoorK19
import Derived.Test.YtekaljeicfjkjaaGreatDoorK08
import Derived.Laws.Slices
import Derived.Laws.CopyOwn
import Derived.StillTailTactics
namespace Go.Proofs.YtekaljeicfjkjaaGreatDoor
section
open Go.RowKit
set_option maxHeartbeats 16000000
theorem zk4 (c : UInt8) (w : World) :
 Calls Tryz.prog 200 #[.int .u8 (c.toNat : Int)] w fun e w' => e = .returned (.int .u16 (pd c : Nat)) /\ w = w' := by
 have hlt := c.toNat_lt
 by_cases h1 : 48 <= c.toNat /\ c.toNat <= 57
 ·have HE : Hid (((pd c : Nat) : Int) = (c.toNat : Int) - 48) := by show _ = _; unfold pd zqe; rw [if_pos h1]; omega
  have d1 : decide ((48 : Int) <= (c.toNat : Int)) = true := jT (by omega)
  have d2 : decide ((c.toNat : Int) <= 57) = true := jT (by omega)
  go_enter Tryz.func200, Tryz.ntmps200
  go_wp2
  go_ret
  exact ⟨zby HE.out.symm, rfl⟩
 ·by_cases h2 : 97 <= c.toNat /\ c.toNat <= 102
  ·have HE : Hid (((pd c : Nat) : Int) = 10 + ((c.toNat : Int) - 97)) := by show _ = _; unfold pd zqe; rw [if_neg h1, if_pos h2]; omega
   have d2 : decide ((c.toNat : Int) <= 57) = false := jF (by omega)
   have d3 : decide ((97 : Int) <= (c.toNat : Int)) = true := jT (by omega)
   have d4 : decide ((c.toNat : Int) <= 102) = true := jT (by omega)
   have d1 : decide ((48 : Int) <= (c.toNat : Int)) = true := jT (by omega)
   go_enter Tryz.func200, Tryz.ntmps200
   go_wp2
   go_ret
   exact ⟨zby HE.out.symm, rfl⟩
  ·by_cases h3 : 65 <= c.toNat /\ c.toNat <= 70
   ·have HE : Hid (((pd c : Nat) : Int) = 10 + ((c.toNat : Int) - 65)) := by show _ = _; unfold pd zqe; rw [if_neg h1, if_neg h2, if_pos h3]; omega
    have d1 : decide ((48 : Int) <= (c.toNat : Int)) = true := jT (by omega)
    have d2 : decide ((c.toNat : Int) <= 57) = false := jF (by omega)
    have d3 : decide ((97 : Int) <= (c.toNat : Int)) = false := jF (by omega)
    have d5 : decide ((65 : Int) <= (c.toNat : Int)) = true := jT (by omega)
    have d6 : decide ((c.toNat : Int) <= 70) = true := jT (by omega)
    go_enter Tryz.func200, Tryz.ntmps200
    go_wp2
    go_ret
    exact ⟨zby HE.out.symm, rfl⟩
   ·have HE : Hid (((pd c : Nat) : Int) = 16) := by show _ = _; unfold pd zqe; rw [if_neg h1, if_neg h2, if_neg h3]; rfl
    have c1 : (decide ((48 : Int) <= (c.toNat : Int)) && decide ((c.toNat : Int) <= 57)) = false := by rw [Bool.and_eq_false_iff, decide_eq_false_iff_not, decide_eq_false_iff_not]; omega
    have c2 : (decide ((97 : Int) <= (c.toNat : Int)) && decide ((c.toNat : Int) <= 102)) = false := by rw [Bool.and_eq_false_iff, decide_eq_false_iff_not, decide_eq_false_iff_not]; omega
    have c3 : (decide ((65 : Int) <= (c.toNat : Int)) && decide ((c.toNat : Int) <= 70)) = false := by rw [Bool.and_eq_false_iff, decide_eq_false_iff_not, decide_eq_false_iff_not]; omega
    go_enter Tryz.func200, Tryz.ntmps200
    go_wp2
    all_goals (go_ret; exact ⟨zby HE.out.symm, rfl⟩)
theorem zk5 (a b : Nat) (hb : b < 16) (ha : a * 16 + b < 65536) : bits .or .u16 (((a : Nat) : Int) * 16) (b : Int) = ((a * 16 + b : Nat) : Int) := by
 rw [show ((a : Nat) : Int) * 16 = ((a * 16 : Nat) : Int) by omega, u16_or_nat _ _ (by omega) (by omega), nat_join 4 (a * 16) b (by omega) (by omega)]
theorem zk6 (l : List UInt8) (k : Nat) (h : (l.take k).all (fun c => decide (zqe c < 16)) = true) : zqf 16 0 (l.take k) < 16 ^ k := by
 have h1 := zj0 (l.take k) 0 0 (by decide) h
 have h2 : (16 : Nat) ^ (0 + (l.take k).length) <= 16 ^ k := Nat.pow_le_pow_right (by decide) (by rw [List.length_take]; omega)
 omega
theorem zk7 {p : UInt8 -> Bool} {l : List UInt8} {k n : Nat} (h : (l.take n).all p = true) (hk : k <= n) : (l.take k).all p = true := by
 rw [List.all_eq_true] at h ⊢
 intro c hc
 refine h c ?_
 rw [show l.take k = (l.take n).take k by rw [List.take_take, Nat.min_eq_left hk]] at hc
 exact List.mem_of_mem_take hc
theorem zk8 (s : ByteArray) (hs : s.size <= 1000000000) (w : World) :
 Calls Tryz.prog 174 #[.string s] w fun e w' => e = .returned (.tuple #[.int .u16 (zqf 16 0 ((ls s).take (zmr 4 (ls s))) : Nat), .int .i64 (zmr 4 (ls s) : Nat)]) /\ w = w' := by
 have hle := zms 4 (ls s)
 have hall := zmv 4 (ls s)
 have hst := zmu 4 (ls s)
 have hlt := zmt 4 (ls s)
 rw [zb4] at hle hst
 generalize zmr 4 (ls s) = n at *
 obtain ⟨hn4, hns⟩ := hle
 have HALL := jL hall
 have HST := jL hst
 have HLT := jL hlt
 clear hall hst hlt
 obtain ⟨M, hM⟩ : ∃ M : Int, min (s.size : Int) 4 = M := ⟨_, rfl⟩
 have hmin : ∀ (W : World) (ts : Array TypeId) (t : TypeId), (Builtin.min_ ts t #[.int .i64 (s.size : Int), .int .i64 4]).run Tryz.prog W = .ok (.int .i64 M) W := fun W ts t => zu3 W ts t _ _ _ hM
 have HM := jL hM
 clear hM
 go_enter Tryz.func174, Tryz.ntmps174
 go_wp2
 go_loop [2, 3] (fun g i => ∃ (k : Nat) (z : Nat), k <= n /\ i = .int .i64 k /\ g = .int .u16 z /\ Hid (z = zqf 16 0 ((ls s).take k))) (fun _ i => 4 - (intOf i).toNat)
 case atStart => exact ⟨0, 0, Nat.zero_le _, rfl, rfl, jL rfl⟩
 case round =>
  obtain ⟨k, z, hk, rfl, rfl, HZ⟩ := hrel
  have hz16 : z < 65536 := by
   have h1 := zk6 (ls s) k (zk7 HALL.out hk)
   have h2 : (16 : Nat) ^ k <= 16 ^ 4 := Nat.pow_le_pow_right (by decide) (by omega)
   have e : (16 : Nat) ^ 4 = 65536 := by decide
   rw [HZ.out]; omega
  by_cases hb : (k : Int) < M
  ·have hd : decide ((k : Int) < M) = true := jT hb
   have hks : k < s.size := by have := HM.out; omega
   have hk4 : k < 4 := by have := HM.out; omega
   have c1 := fun W => zk4 s[k] W
   by_cases hx : zqe s[k] < 16
   ·have hpd : pd s[k] = zqe s[k] := by unfold pd; omega
    rw [hpd] at c1
    have HZ2 : Hid (z * 16 + zqe s[k] = zqf 16 0 ((ls s).take (k + 1))) := by
     show _ = _
     rw [zjy s k hks, HZ.out]
    have hkn : k + 1 <= n := by
     by_cases e : k = n
     ·exfalso
      rcases HST.out with h | h | h
      ·omega
      ·omega
      ·rw [<- e, List.getD_eq_getElem?_getD, zb7 s k hks, Option.getD_some] at h
       exact h hx
     ·omega
    have hz2 : z * 16 + zqe s[k] < 65536 := by
     have h1 := zk6 (ls s) (k + 1) (zk7 HALL.out hkn)
     have h2 : (16 : Nat) ^ (k + 1) <= 16 ^ 4 := Nat.pow_le_pow_right (by decide) (by omega)
     have e : (16 : Nat) ^ 4 = 65536 := by decide
     rw [HZ2.out]; omega
    obtain ⟨d, hdd⟩ : ∃ d, d = zqe s[k] := ⟨_, rfl⟩
    rw [<- hdd] at c1 hx HZ2 hz2
    have hor := zk5 z d hx hz2
    have hwr : IntKind.u16.wrap ((z : Int) * 16) = (z : Int) * 16 := by rw [IntKind.wrap_u16]; omega
    have hge : decide ((d : Int) >= 16) = false := jF (by omega)
    have hge2 : decide ((16 : Int) <= (d : Int)) = false := jF (by omega)
    clear hdd hpd
    go_wp2_with fail
    refine (c1 _).mono ?_
    rintro e w' ⟨rfl, rfl⟩
    go_wp2
    go_round
    case rel => exact ⟨k + 1, z * 16 + d, hkn, by go_num, by first | rfl | go_num, HZ2⟩
    case measure => simp [intOf]; omega
   ·have hpd : pd s[k] = 16 := by unfold pd; omega
    rw [hpd, show ((16 : Nat) : Int) = 16 from rfl] at c1
    have hkn : k = n := by
     by_cases e : k < n
     ·exfalso
      have := HLT.out k e
      rw [List.getD_eq_getElem?_getD, zb7 s k hks, Option.getD_some] at this
      exact hx this
     ·omega
    subst hkn
    clear hpd
    go_wp2_with fail
    refine (c1 _).mono ?_
    rintro e w' ⟨rfl, rfl⟩
    go_wp2
    go_ret2
    exact ⟨by rw [HZ.out]; rfl, rfl⟩
  ·have hd : decide ((k : Int) < M) = false := jF hb
   have hkn : k = n := by have := HM.out; omega
   subst hkn
   go_wp2
   go_ret2
   exact ⟨by rw [HZ.out]; rfl, rfl⟩
end

section
open Go.RowKit
set_option maxHeartbeats 16000000
theorem z2s {P : Program} (t e : TypeId) (n g l h : Nat) (hu : P.underlying t = some (.array n e)) (hs : (P.info? e).map (·.size) = some 1) (lo hi : Option Value)
 (hl : lo = some (.int .i64 (l : Int)) \/ (lo = none /\ l = 0)) (hh : hi = some (.int .i64 (h : Int)) \/ (hi = none /\ h = n)) (h1 : l <= h) (h2 : h <= n) (w : World) :
 (Instr.sliceAt t (.pointer (some ⟨g, 0, none⟩)) lo hi none).run P w = .ok (.slice (some (if n = l then ⟨g, 0, none⟩ else ⟨g, l, none⟩)) (h - l) (n - l)) w := by
 obtain ⟨q, hq, hq1⟩ : ∃ q, P.info? e = some q /\ q.size = 1 := by
  cases hq : P.info? e with
  | none => simp [hq] at hs
  | some q => exact ⟨q, rfl, by simpa [hq] using hs⟩
 have hadd : (⟨g, 0, none⟩ : Addr).add l = ⟨g, l, none⟩ := by unfold Addr.add; simp; omega
 have b1 : ∀ (y : Nat) (code : BoundsCode) (W : World), l <= y -> (Instr.sliceBound (.int .i64 (l : Int)) y code).run P W = .ok l W := fun y code W hy => by
  have := run_sliceBound (P := P) W .i64 (l : Int) y code (by omega) (by omega)
  simpa using this
 have b2 : ∀ (y : Nat) (code : BoundsCode) (W : World), h <= y -> (Instr.sliceBound (.int .i64 (h : Int)) y code).run P W = .ok h W := fun y code W hy => by
  have := run_sliceBound (P := P) W .i64 (h : Int) y code (by omega) (by omega)
  simpa using this
 have hsz : ∀ W, (sizeOf e).run P W = .ok 1 W := fun W => by simp [sizeOf, typeInfo, hq, hq1]
 rcases hl with rfl | ⟨rfl, rfl⟩ <;> rcases hh with rfl | ⟨rfl, rfl⟩
 ·simp [Instr.sliceAt, Instr.sureAddr, run_underlying hu, Instr.sliceBounds, b1 h _ _ h1, b2 n _ _ h2, hsz, hadd, Result.andThen]
 ·simp [Instr.sliceAt, Instr.sureAddr, run_underlying hu, Instr.sliceBounds, b1 _ _ _ h1, hsz, hadd, Result.andThen]
 ·simp [Instr.sliceAt, Instr.sureAddr, run_underlying hu, Instr.sliceBounds, b2 n _ _ h2, hsz, Result.andThen]
  exact fun _ => hadd
 ·simp [Instr.sliceAt, Instr.sureAddr, run_underlying hu, Instr.sliceBounds, hsz, Result.andThen]
  exact fun _ => hadd
end

section
open Go.RowKit
set_option maxHeartbeats 16000000
theorem zmc (w : World) (g : Nat) (C : List Nat) (h : zaj w g C) (hC : C.length = 8) (l m : Nat) (hm : l + m <= 8) (B : Nat) (hB : g < B) (A : Option Addr) (hA : 0 < m -> A = some ⟨g, l, none⟩) : Has w B A m (uv ((C.drop l).take m)) := by
 refine ⟨by rw [zkb, List.length_take, List.length_drop, hC]; omega, fun h0 => ⟨g, l, hA h0, hB, fun j hj => ?_⟩⟩
 have hj' : j < m := by
  rw [zkb, List.length_take] at hj
  omega
 rw [h.cell (k := l + j) (by omega)]
 simp [uv, List.getD_eq_getElem?_getD, List.getElem?_eq_getElem (show l + j < C.length by omega)]
theorem zmd (w : World) {ops : Array Oper} {rest : List Oper} {o : Oper} {a : Act} {Q : Exit -> Act -> World -> Prop} (hg : o.guard = none) (d s : Operand)
 (ho : o.op = .call { callee := .builtin .copy, args := #[d, s], argTypes := #[95, 95] }) (g off dLen dCap sLen sCap : Nat) (Ad As : Option Addr) (hd : a.eval d = .slice Ad dLen dCap) (hs : a.eval s = .slice As sLen sCap)
 (C : List Nat) (hrow : zaj w g C) (hC : C.length = 8) (xs : List Nat) (B : Nat) (hx : Has w B As sLen (uv xs)) (hle : sLen <= dLen) (hAd : 0 < sLen -> Ad = some ⟨g, off, none⟩) (hfit : off + sLen <= 8)
 (h : ∀ w', zaj w' g (C.take off ++ (xs ++ C.drop (off + sLen))) -> w.grownBy w' (some g) -> wpList Tryz.prog ops Q rest (a.put o.dst (goInt sLen)) w') : wpList Tryz.prog ops Q (o :: rest) a w := by
 have hxl : xs.length = sLen := by have := hx.1; rwa [zkb] at this
 by_cases h0 : sLen = 0
 ·subst h0
  obtain rfl : xs = [] := List.eq_nil_of_length_eq_zero hxl
  refine wpList_copy_nothing hg d s _ _ ho 23 zj7 zka _ _ _ _ _ _ hd hs (by simp) ?_
  exact h w (by simpa using hrow) ⟨rfl, rfl, rfl, jH, fun _ _ _ => rfl⟩
 ·obtain ⟨b, o2, rfl, hb, hc⟩ := hx.2 (by omega)
  obtain rfl := hAd (by omega)
  refine wpList_copy_own hg d s _ _ ho 23 zj7 zka g off dLen dCap ⟨b, o2, none⟩ sLen sCap hd hs (av C) _ hrow (uv xs) (by rw [zkb, hxl]; simp [Nat.min_def]; omega) ?_ (by rw [zkb, hxl, zaa, hC]; exact hfit) (zkd _) ?_
  ·intro j v hj
   have hadd : (⟨b, o2, none⟩ : Addr).add j = ⟨b, o2 + j, none⟩ := by unfold Addr.add; split <;> simp_all
   have hjl := (List.getElem?_eq_some_iff.1 hj).1
   rw [hadd, hc j hjl, <- hj, List.getElem?_eq_getElem hjl]
  ·have hval : ((av C).toList.take off ++ (uv xs ++ (av C).toList.drop (off + (uv xs).length))).toArray = av (C.take off ++ (xs ++ C.drop (off + sLen))) := by
    rw [zkb, hxl]
    simp [av, uv, List.map_take, List.map_drop]
   rw [hval, zkb, hxl]
   exact h _ (setRow_heap w g (av C) _ _ _ hrow) (zaw w g _)
theorem zme (a : List Nat) (ha : a.length = 8) (c m : Nat) (hm : m <= c) (hc : c <= 8) (C : List Nat) (hC : C = (znt 8).take 0 ++ (a.take m ++ (znt 8).drop (0 + m))) :
 C.take (8 - (c - m)) ++ ((a.take c).drop m ++ C.drop (8 - (c - m) + (c - m))) = a.take m ++ (znt (8 - c) ++ (a.take c).drop m) := by
 have hz : (znt 8).drop m = znt (8 - m) := by unfold znt; rw [List.drop_replicate]
 have h1 : C = a.take m ++ znt (8 - m) := by rw [hC, List.take_zero, List.nil_append, Nat.zero_add, hz]
 have h3 : (a.take m).length = m := by rw [List.length_take, ha]; omega
 have h2 : C.length = 8 := by rw [h1, List.length_append, h3]; unfold znt; rw [List.length_replicate]; omega
 have h4 : C.drop (8 - (c - m) + (c - m)) = [] := List.drop_eq_nil_of_le (by omega)
 have h5 : C.take (8 - (c - m)) = a.take m ++ znt (8 - c) := by
  have h6 : (a.take m).take (8 - (c - m)) = a.take m := List.take_of_length_le (by omega)
  have h7 : (znt (8 - m)).take (8 - (c - m) - m) = znt (8 - c) := by
   unfold znt
   rw [List.take_replicate]
   congr 1
   omega
  rw [h1, List.take_append, h6, h3, h7]
 rw [h4, h5, List.append_nil, List.append_assoc]
set_option maxRecDepth 20000 in
theorem zmf (a : List Nat) (ha : a.length = 8) (c m : Nat) (hm : m <= c) (hc : c <= 8) (w : World) :
 Calls Tryz.prog 176 #[.agg (av a), .int .i64 (c : Int), .int .i64 (m : Int)] w fun e w' => e = .returned (.agg (av (a.take m ++ (znt (8 - c) ++ (a.take c).drop m)))) /\ Below w.heap.size w w' := by
 have HAL := jL ha
 clear ha
 go_enter Tryz.func176, Tryz.ntmps176
 go_wp2_with (first
  | (refine zax _ rfl 3 rfl _ _ rfl _ (av a) (by exact rfl) (by exact rfl) ?_; intro W1 ga hga hla hA hG; have hb1 := zav (Below.refl w.heap.size w) hG jH)
  | (refine zay _ rfl 6 rfl _ rfl _ zai ?_; intro W2 gr hgr hlr hR hG2; have hA2 := hA.grown0 hG2; have hb2 := zav hb1 hG2 jH)
  | (refine zay _ rfl 7 rfl _ rfl _ zai ?_; intro W3 gs hgs hls hS hG3; have hA3 : zaj W3 ga a := hA2.grown0 hG3; have hR3 : zaj W3 gr (znt 8) := hR.grown0 hG3; have hb3 := zav hb2 hG3 jH))
 have hS3 : zaj W3 gs (znt 8) := hS
 have n1 : ga ≠ gs := by have := hA2.lt; omega
 have n2 : gr ≠ gs := by have := hR.lt; omega
 have n3 : ga ≠ gr := by have := hA.lt; omega
 have hws : w.heap.size <= gs := by have := hb2.size; omega
 have hwr : w.heap.size <= gr := by have := hb1.size; omega
 have HB3 := jL hb3
 have hs1 := fun W => z2s (P := Tryz.prog) 24 23 8 gs 0 8 zae zka none none (.inr ⟨rfl, rfl⟩) (.inr ⟨rfl, rfl⟩) (by omega) (by omega) W
 have hs2 := fun W => z2s (P := Tryz.prog) 24 23 8 ga 0 m zae zka none (some (.int .i64 (m : Int))) (.inr ⟨rfl, rfl⟩) (.inl rfl) (by omega) (by omega) W
 simp only [if_neg (show ¬ 8 = 0 by omega), Nat.sub_zero] at hs1 hs2
 have e8 : (8 : Int) - ((c : Int) - (m : Int)) = ((8 - (c - m) : Nat) : Int) := by omega
 have hs3 := fun W => z2s (P := Tryz.prog) 24 23 8 gs (8 - (c - m)) 8 zae zka (some (.int .i64 (8 - ((c : Int) - (m : Int))))) none (.inl (by rw [e8])) (.inr ⟨rfl, rfl⟩) (by omega) (by omega) W
 have hs4 := fun W => z2s (P := Tryz.prog) 24 23 8 ga m c zae zka (some (.int .i64 (m : Int))) (some (.int .i64 (c : Int))) (.inl rfl) (.inl rfl) hm hc W
 simp only [show 8 - (8 - (c - m)) = c - m by omega] at hs3
 obtain ⟨A3, hA3e, hA30⟩ : ∃ A : Option Addr, A = some (if 8 = 8 - (c - m) then (⟨gs, 0, none⟩ : Addr) else ⟨gs, 8 - (c - m), none⟩) /\ (0 < c - m -> A = some ⟨gs, 8 - (c - m), none⟩) := ⟨_, rfl, fun h => by rw [if_neg (by omega)]⟩
 obtain ⟨A4, hA4e, hA40⟩ : ∃ A : Option Addr, A = some (if 8 = m then (⟨ga, 0, none⟩ : Addr) else ⟨ga, m, none⟩) /\ (0 < c - m -> A = some ⟨ga, m, none⟩) := ⟨_, rfl, fun h => by rw [if_neg (by omega)]⟩
 rw [<- hA3e] at hs3
 rw [<- hA4e] at hs4
 have HCM := jL (And.intro hm hc)
 have HA3 := jL hA30
 have HA4 := jL hA40
 clear hA3e hA4e e8 hb1 hb2 hb3 hG hG2 hG3 hA hA2 hR hS hA30 hA40
 go_still_tail 3, (by kernel_rfl)
 change wpList _ _ _ _ _ (World.drew _)
 have hx1 : Has (World.drew W3) W3.heap.size (some ⟨ga, 0, none⟩) m (uv (a.take m)) := by
  have := zmc (World.drew W3) ga a hA3 HAL.out 0 m (by have := HCM.out; omega) W3.heap.size hA3.lt (some ⟨ga, 0, none⟩) (fun _ => rfl)
  rwa [List.drop_zero] at this
 have hm8 : m <= 8 := by have := HCM.out; omega
 go_wp2_with (refine zmd _ rfl _ _ rfl gs 0 8 8 m 8 (some ⟨gs, 0, none⟩) (some ⟨ga, 0, none⟩) (by exact rfl) (by exact rfl) (znt 8) (show zaj (World.drew W3) gs _ from hS3) rfl (a.take m) _ hx1 hm8 (fun _ => rfl) (by omega) ?_; intro W4 hS4 hG4)
 have hA4 : zaj W4 ga a := Row.grown (show zaj (World.drew W3) ga a from hA3) hG4 n1
 have hR4 : zaj W4 gr (znt 8) := Row.grown (show zaj (World.drew W3) gr (znt 8) from hR3) hG4 n2
 have hb4 := zau (HB3.out.drew) hG4 jH hws
 have HB4 := jL hb4
 clear hG4 hb4 hA3 hR3 hS3 hx1
 obtain ⟨C, hC⟩ : ∃ C, C = (znt 8).take 0 ++ (a.take m ++ (znt 8).drop (0 + m)) := ⟨_, rfl⟩
 rw [<- hC] at hS4
 have hC8 : C.length = 8 := by rw [hC]; simp [znt, HAL.out]; omega
 have HC := jL hC
 have HC8 := jL hC8
 clear hC hC8
 have hw1 : IntKind.i64.wrap ((c : Int) - (m : Int)) = (c : Int) - (m : Int) := by have := HCM.out; rw [IntKind.wrap_i64]; omega
 have hw2 : IntKind.i64.wrap (8 - ((c : Int) - (m : Int))) = 8 - ((c : Int) - (m : Int)) := by have := HCM.out; rw [IntKind.wrap_i64]; omega
 go_still_tail 8, (by kernel_rfl)
 clear hw1 hw2
 change wpList _ _ _ _ _ (World.drew _)
 have hx2 : Has (World.drew W4) W4.heap.size A4 (c - m) (uv ((a.take c).drop m)) := by
  have := zmc (World.drew W4) ga a hA4 HAL.out m (c - m) (by have := HCM.out; omega) W4.heap.size hA4.lt A4 HA4.out
  rwa [show (a.drop m).take (c - m) = (a.take c).drop m by rw [List.drop_take]] at this
 obtain ⟨F, hF⟩ : ∃ F, F = C.take (8 - (c - m)) ++ ((a.take c).drop m ++ C.drop (8 - (c - m) + (c - m))) := ⟨_, rfl⟩
 have hFF : F = a.take m ++ (znt (8 - c) ++ (a.take c).drop m) := by
  rw [hF]
  exact zme a HAL.out c m HCM.out.1 HCM.out.2 C HC.out
 have hF8 : F.length = 8 := by
  have := HCM.out
  rw [hFF]
  simp [znt, HAL.out]
  omega
 have HFF := jL hFF
 have HF8 := jL hF8
 clear hFF hF8
 go_wp2_with (first
  | (refine zmd _ rfl _ _ rfl gs (8 - (c - m)) (c - m) (c - m) (c - m) (8 - m) A3 A4 (by exact rfl) (by exact rfl) C (show zaj (World.drew W4) gs _ from hS4) HC8.out ((a.take c).drop m) _ hx2 jH HA3.out (by have := HCM.out; omega) ?_; intro W5 hS5 hG5; rw [<- hF] at hS5; have hR5 := Row.grown (show zaj (World.drew W4) gr (znt 8) from hR4) hG5 n2; have hb5 := zau (HB4.out.drew) hG5 jH hws)
  | (refine zaz _ rfl _ _ rfl gs (by exact rfl) _ (av F) hS5 8 _ zae (zah F HF8.out) ?_)
  | (refine za0 _ rfl rfl _ _ _ rfl gr (by exact rfl) (av F) (by exact rfl) _ _ hR5 (zah F HF8.out) (by rw [zaa, zaa, HF8.out]; rfl) (zac F) ?_; intro W6 hR6 hG6; have hb6 := zau hb5 hG6 jH hwr))
 refine za4 6 _ rfl gr (by exact rfl) _ (av F) hR6 8 _ zae (zah F HF8.out) (by exact rfl) ?_
 exact ⟨by rw [HFF.out], hb6⟩
end

end Go.Proofs.YtekaljeicfjkjaaGreatDoor
