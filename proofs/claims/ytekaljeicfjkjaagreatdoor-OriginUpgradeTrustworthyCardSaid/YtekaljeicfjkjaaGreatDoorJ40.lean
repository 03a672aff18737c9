/-
Contract of withGap of package ipv6.
Contract of Parse of package ipv6.
-/
import Derived.Test.YtekaljeicfjkjaaGreatDoorJ39
import Derived.Test.YtekaljeicfjkjaaGreatDoorJ08
import Derived.Laws.CopyOwn
import Derived.StillTailTactics
import Derived.Test.YtekaljeicfjkjaaGreatDoorJ09
import Derived.Shelf.Small.Wraps
import Derived.Deep.CutRange
import Derived.Deep.CutBlock
namespace Go.Proofs.YtekaljeicfjkjaaGreatDoor
section
open Go.RowKit
set_option maxHeartbeats 16000000
theorem zlr (w : World) (g : Nat) (C : List Nat) (h : zaj w g C) (hC : C.length = 8) (l m : Nat) (hm : l + m <= 8) (B : Nat) (hB : g < B) (A : Option Addr) (hA : 0 < m -> A = some ⟨g, l, none⟩) : Has w B A m (uv ((C.drop l).take m)) := by
 refine ⟨by rw [zjv, List.length_take, List.length_drop, hC]; omega, fun h0 => ⟨g, l, hA h0, hB, fun j hj => ?_⟩⟩
 have hj' : j < m := by
  rw [zjv, List.length_take] at hj
  omega
 rw [h.cell (k := l + j) (by omega)]
 simp [uv, List.getD_eq_getElem?_getD, List.getElem?_eq_getElem (show l + j < C.length by omega)]
theorem zls (w : World) {ops : Array Oper} {rest : List Oper} {o : Oper} {a : Act} {Q : Exit -> Act -> World -> Prop} (hg : o.guard = none) (d s : Operand)
 (ho : o.op = .call { callee := .builtin .copy, args := #[d, s], argTypes := #[95, 95] }) (g off dLen dCap sLen sCap : Nat) (Ad As : Option Addr) (hd : a.eval d = .slice Ad dLen dCap) (hs : a.eval s = .slice As sLen sCap)
 (C : List Nat) (hrow : zaj w g C) (hC : C.length = 8) (xs : List Nat) (B : Nat) (hx : Has w B As sLen (uv xs)) (hle : sLen <= dLen) (hAd : 0 < sLen -> Ad = some ⟨g, off, none⟩) (hfit : off + sLen <= 8)
 (h : ∀ w', zaj w' g (C.take off ++ (xs ++ C.drop (off + sLen))) -> w.grownBy w' (some g) -> wpList Tryz.prog ops Q rest (a.put o.dst (goInt sLen)) w') : wpList Tryz.prog ops Q (o :: rest) a w := by
 have hxl : xs.length = sLen := by have := hx.1; rwa [zjv] at this
 by_cases h0 : sLen = 0
 ·subst h0
  obtain rfl : xs = [] := List.eq_nil_of_length_eq_zero hxl
  refine wpList_copy_nothing hg d s _ _ ho 23 zjr zju _ _ _ _ _ _ hd hs (by simp) ?_
  exact h w (by simpa using hrow) ⟨rfl, rfl, rfl, jH, fun _ _ _ => rfl⟩
 ·obtain ⟨b, o2, rfl, hb, hc⟩ := hx.2 (by omega)
  obtain rfl := hAd (by omega)
  refine wpList_copy_own hg d s _ _ ho 23 zjr zju g off dLen dCap ⟨b, o2, none⟩ sLen sCap hd hs (av C) _ hrow (uv xs) (by rw [zjv, hxl]; simp [Nat.min_def]; omega) ?_ (by rw [zjv, hxl, zaa, hC]; exact hfit) (zjx _) ?_
  ·intro j v hj
   have hadd : (⟨b, o2, none⟩ : Addr).add j = ⟨b, o2 + j, none⟩ := by unfold Addr.add; split <;> simp_all
   have hjl := (List.getElem?_eq_some_iff.1 hj).1
   rw [hadd, hc j hjl, <- hj, List.getElem?_eq_getElem hjl]
  ·have hval : ((av C).toList.take off ++ (uv xs ++ (av C).toList.drop (off + (uv xs).length))).toArray = av (C.take off ++ (xs ++ C.drop (off + sLen))) := by
    rw [zjv, hxl]
    simp [av, uv, List.map_take, List.map_drop]
   rw [hval, zjv, hxl]
   exact h _ (setRow_heap w g (av C) _ _ _ hrow) (zaw w g _)
theorem zlt (a : List Nat) (ha : a.length = 8) (c m : Nat) (hm : m <= c) (hc : c <= 8) (C : List Nat) (hC : C = (zm8 8).take 0 ++ (a.take m ++ (zm8 8).drop (0 + m))) :
 C.take (8 - (c - m)) ++ ((a.take c).drop m ++ C.drop (8 - (c - m) + (c - m))) = a.take m ++ (zm8 (8 - c) ++ (a.take c).drop m) := by
 have hz : (zm8 8).drop m = zm8 (8 - m) := by unfold zm8; rw [List.drop_replicate]
 have h1 : C = a.take m ++ zm8 (8 - m) := by rw [hC, List.take_zero, List.nil_append, Nat.zero_add, hz]
 have h3 : (a.take m).length = m := by rw [List.length_take, ha]; omega
 have h2 : C.length = 8 := by rw [h1, List.length_append, h3]; unfold zm8; rw [List.length_replicate]; omega
 have h4 : C.drop (8 - (c - m) + (c - m)) = [] := List.drop_eq_nil_of_le (by omega)
 have h5 : C.take (8 - (c - m)) = a.take m ++ zm8 (8 - c) := by
  have h6 : (a.take m).take (8 - (c - m)) = a.take m := List.take_of_length_le (by omega)
  have h7 : (zm8 (8 - m)).take (8 - (c - m) - m) = zm8 (8 - c) := by
   unfold zm8
   rw [List.take_replicate]
   congr 1
   omega
  rw [h1, List.take_append, h6, h3, h7]
 rw [h4, h5, List.append_nil, List.append_assoc]
set_option maxRecDepth 20000 in
theorem zlu (a : List Nat) (ha : a.length = 8) (c m : Nat) (hm : m <= c) (hc : c <= 8) (w : World) :
 Calls Tryz.prog 176 #[.agg (av a), .int .i64 (c : Int), .int .i64 (m : Int)] w fun e w' => e = .returned (.agg (av (a.take m ++ (zm8 (8 - c) ++ (a.take c).drop m)))) /\ Below w.heap.size w w' := by
 have HAL := jL ha
 clear ha
 go_enter Tryz.func176, Tryz.ntmps176
 go_wp2_with (first
  | (refine zax _ rfl 3 rfl _ _ rfl _ (av a) (by exact rfl) (by exact rfl) ?_; intro W1 ga hga hla hA hG; have hb1 := zav (Below.refl w.heap.size w) hG jH)
  | (refine zay _ rfl 6 rfl _ rfl _ zai ?_; intro W2 gr hgr hlr hR hG2; have hA2 := hA.grown0 hG2; have hb2 := zav hb1 hG2 jH)
  | (refine zay _ rfl 7 rfl _ rfl _ zai ?_; intro W3 gs hgs hls hS hG3; have hA3 : zaj W3 ga a := hA2.grown0 hG3; have hR3 : zaj W3 gr (zm8 8) := hR.grown0 hG3; have hb3 := zav hb2 hG3 jH))
 have hS3 : zaj W3 gs (zm8 8) := hS
 have n1 : ga ≠ gs := by have := hA2.lt; omega
 have n2 : gr ≠ gs := by have := hR.lt; omega
 have n3 : ga ≠ gr := by have := hA.lt; omega
 have hws : w.heap.size <= gs := by have := hb2.size; omega
 have hwr : w.heap.size <= gr := by have := hb1.size; omega
 have HB3 := jL hb3
 have hs1 := fun W => z13 (P := Tryz.prog) 24 23 8 gs 0 8 zae zju none none (.inr ⟨rfl, rfl⟩) (.inr ⟨rfl, rfl⟩) (by omega) (by omega) W
 have hs2 := fun W => z13 (P := Tryz.prog) 24 23 8 ga 0 m zae zju none (some (.int .i64 (m : Int))) (.inr ⟨rfl, rfl⟩) (.inl rfl) (by omega) (by omega) W
 simp only [if_neg (show ¬ 8 = 0 by omega), Nat.sub_zero] at hs1 hs2
 have e8 : (8 : Int) - ((c : Int) - (m : Int)) = ((8 - (c - m) : Nat) : Int) := by omega
 have hs3 := fun W => z13 (P := Tryz.prog) 24 23 8 gs (8 - (c - m)) 8 zae zju (some (.int .i64 (8 - ((c : Int) - (m : Int))))) none (.inl (by rw [e8])) (.inr ⟨rfl, rfl⟩) (by omega) (by omega) W
 have hs4 := fun W => z13 (P := Tryz.prog) 24 23 8 ga m c zae zju (some (.int .i64 (m : Int))) (some (.int .i64 (c : Int))) (.inl rfl) (.inl rfl) hm hc W
 simp only [show 8 - (8 - (c - m)) = c - m by omega] at hs3
 obtain ⟨A3, hA3e, hA30⟩ : ∃ A : Option Addr, A = some (if 8 = 8 - (c - m) then (⟨gs, 0, none⟩ : Addr) else ⟨gs, 8 - (c - m), none⟩) /\ (0 < c - m -> A = some ⟨gs, 8 - (c - m), none⟩) := ⟨_, rfl, fun h => by rw [if_neg (by omega)]⟩
 obtain ⟨A4, hA4e, hA40⟩ : ∃ A : Option Addr, A = some (if 8 = m then (⟨ga, 0, none⟩ : Addr) else ⟨ga, m, none⟩) /\ (0 < c - m -> A = some ⟨ga, m, none⟩) := ⟨_, rfl, fun h => by rw [if_neg (by omega)]⟩
 rw [<- hA3e] at hs3
 rw [<- hA4e] at hs4
 have HCM := jL (And.intro hm hc)
 have HA3 := jL hA30
 have HA4 := jL hA40
 clear hA3e hA4e e8 hb1 hb2 hb3 hG hG2 hG3 hA hA2 hR hS hA30 hA40
 go_still_tail 3, (by kernel_rfl)
 change wpList _ _ _ _ _ (World.drew _)
 have hx1 : Has (World.drew W3) W3.heap.size (some ⟨ga, 0, none⟩) m (uv (a.take m)) := by
  have := zlr (World.drew W3) ga a hA3 HAL.out 0 m (by have := HCM.out; omega) W3.heap.size hA3.lt (some ⟨ga, 0, none⟩) (fun _ => rfl)
  rwa [List.drop_zero] at this
 have hm8 : m <= 8 := by have := HCM.out; omega
 go_wp2_with (refine zls _ rfl _ _ rfl gs 0 8 8 m 8 (some ⟨gs, 0, none⟩) (some ⟨ga, 0, none⟩) (by exact rfl) (by exact rfl) (zm8 8) (show zaj (World.drew W3) gs _ from hS3) rfl (a.take m) _ hx1 hm8 (fun _ => rfl) (by omega) ?_; intro W4 hS4 hG4)
 have hA4 : zaj W4 ga a := Row.grown (show zaj (World.drew W3) ga a from hA3) hG4 n1
 have hR4 : zaj W4 gr (zm8 8) := Row.grown (show zaj (World.drew W3) gr (zm8 8) from hR3) hG4 n2
 have hb4 := zau (HB3.out.drew) hG4 jH hws
 have HB4 := jL hb4
 clear hG4 hb4 hA3 hR3 hS3 hx1
 obtain ⟨C, hC⟩ : ∃ C, C = (zm8 8).take 0 ++ (a.take m ++ (zm8 8).drop (0 + m)) := ⟨_, rfl⟩
 rw [<- hC] at hS4
 have hC8 : C.length = 8 := by rw [hC]; simp [zm8, HAL.out]; omega
 have HC := jL hC
 have HC8 := jL hC8
 clear hC hC8
 have hw1 : IntKind.i64.wrap ((c : Int) - (m : Int)) = (c : Int) - (m : Int) := by have := HCM.out; rw [IntKind.wrap_i64]; omega
 have hw2 : IntKind.i64.wrap (8 - ((c : Int) - (m : Int))) = 8 - ((c : Int) - (m : Int)) := by have := HCM.out; rw [IntKind.wrap_i64]; omega
 go_still_tail 8, (by kernel_rfl)
 clear hw1 hw2
 change wpList _ _ _ _ _ (World.drew _)
 have hx2 : Has (World.drew W4) W4.heap.size A4 (c - m) (uv ((a.take c).drop m)) := by
  have := zlr (World.drew W4) ga a hA4 HAL.out m (c - m) (by have := HCM.out; omega) W4.heap.size hA4.lt A4 HA4.out
  rwa [show (a.drop m).take (c - m) = (a.take c).drop m by rw [List.drop_take]] at this
 obtain ⟨F, hF⟩ : ∃ F, F = C.take (8 - (c - m)) ++ ((a.take c).drop m ++ C.drop (8 - (c - m) + (c - m))) := ⟨_, rfl⟩
 have hFF : F = a.take m ++ (zm8 (8 - c) ++ (a.take c).drop m) := by
  rw [hF]
  exact zlt a HAL.out c m HCM.out.1 HCM.out.2 C HC.out
 have hF8 : F.length = 8 := by
  have := HCM.out
  rw [hFF]
  simp [zm8, HAL.out]
  omega
 have HFF := jL hFF
 have HF8 := jL hF8
 clear hFF hF8
 go_wp2_with (first
  | (refine zls _ rfl _ _ rfl gs (8 - (c - m)) (c - m) (c - m) (c - m) (8 - m) A3 A4 (by exact rfl) (by exact rfl) C (show zaj (World.drew W4) gs _ from hS4) HC8.out ((a.take c).drop m) _ hx2 jH HA3.out (by have := HCM.out; omega) ?_; intro W5 hS5 hG5; rw [<- hF] at hS5; have hR5 := Row.grown (show zaj (World.drew W4) gr (zm8 8) from hR4) hG5 n2; have hb5 := zau (HB4.out.drew) hG5 jH hws)
  | (refine zaz _ rfl _ _ rfl gs (by exact rfl) _ (av F) hS5 8 _ zae (zah F HF8.out) ?_)
  | (refine za0 _ rfl rfl _ _ _ rfl gr (by exact rfl) (av F) (by exact rfl) _ _ hR5 (zah F HF8.out) (by rw [zaa, zaa, HF8.out]; rfl) (zac F) ?_; intro W6 hR6 hG6; have hb6 := zau hb5 hG6 jH hwr))
 refine za4 6 _ rfl gr (by exact rfl) _ (av F) hR6 8 _ zae (zah F HF8.out) (by exact rfl) ?_
 exact ⟨by rw [HFF.out], hb6⟩
end

section
open Go.RowKit
set_option maxHeartbeats 16000000
def gvI : Option Nat -> Int
 | none => -1
 | some m => (m : Int)
theorem zlv : gvI none = -1 := rfl
theorem zlw (m : Nat) : gvI (some m) = (m : Int) := rfl
theorem zlx : ∀ W, (Instr.build 24 #[]).run Tryz.prog W = .ok (.agg (av (zm8 8))) W := by
 intro W
 obtain ⟨q, hq, hq1⟩ : ∃ q, Tryz.prog.info? 23 = some q /\ q.size = 1 := by
  cases hq : Tryz.prog.info? 23 with
  | none => have := zju; rw [hq] at this; cases this
  | some q => have := zju; rw [hq] at this; exact ⟨q, rfl, by simpa using this⟩
 simp [Instr.build, run_underlying zae, sizeOf, typeInfo, hq, Instr.fill, Value.cells, Result.andThen]
 rfl
theorem zly (l : List UInt8) : Lib.hasPrefix l [58, 58] = decide (l.take 2 = [58, 58]) := by
 unfold Lib.hasPrefix
 match l with
 | [] => rfl
 | [a] => simp [List.isPrefixOf]
 | a :: b :: r =>
   apply Bool.eq_iff_iff.2
   rw [List.isPrefixOf_iff_prefix, decide_eq_true_iff]
   constructor
   ·rintro ⟨t, ht⟩
    injection ht with h1 ht
    injection ht with h2 ht
    rw [<- h1, <- h2]; rfl
   ·intro h
    simp at h
    exact ⟨r, by rw [h.1, h.2]; rfl⟩
theorem zlz (l : List UInt8) : sp6 (Lib.trimPrefix l [58, 58]) [] (if Lib.hasPrefix l [58, 58] = true then some 0 else none) = zm9 l := by
 rw [zms l]
 unfold Lib.trimPrefix
 rw [zly]
 by_cases h : l.take 2 = [58, 58]
 ·rw [jT h, if_pos rfl, if_pos rfl, if_pos h]; rfl
 ·rw [jF h, if_neg (by decide), if_neg (by decide), if_neg h]
theorem zl0 (l p : List UInt8) : (Lib.trimPrefix l p).length <= l.length := by
 unfold Lib.trimPrefix
 split
 ·simp
 ·exact jH
theorem zl1 (G : List Nat) : sp6 [] G (some G.length) = zml G (some G.length) := by
 rw [zmm]
 unfold spB
 rw [if_pos ⟨rfl, rfl⟩]
 simp
theorem zl2 (G : List Nat) (h : G.length < 8) (v : Nat) : (G ++ zm8 (8 - G.length)).set G.length v = (G ++ [v]) ++ zm8 (8 - (G ++ [v]).length) := by
 rw [List.set_append_right _ _ jH, Nat.sub_self, List.length_append, List.append_assoc]
 obtain ⟨q, hq⟩ : ∃ q, 8 - G.length = q + 1 := ⟨8 - G.length - 1, by omega⟩
 rw [hq, show 8 - (G.length + [v].length) = q by simp; omega]
 rfl
theorem zl3 (G : List Nat) (h : G.length <= 8) : (G ++ zm8 (8 - G.length)).length = 8 := by
 rw [List.length_append]
 unfold zm8
 rw [List.length_replicate]
 omega
theorem zl4 (G : List Nat) (h : G.length < 7) (v x y : Nat) : (((G ++ [v]) ++ zm8 (8 - (G ++ [v]).length)).set G.length x).set (G.length + 1) y = (G ++ [x, y]) ++ zm8 (8 - (G ++ [x, y]).length) := by
 have h1 : ((G ++ [v]) ++ zm8 (8 - (G ++ [v]).length)).set G.length x = (G ++ [x]) ++ zm8 (8 - (G ++ [x]).length) := by
  rw [List.append_assoc, List.set_append_right _ _ jH, Nat.sub_self, List.append_assoc, List.length_append, List.length_append]
  rfl
 have h2 := zl2 (G ++ [x]) (by simp; omega) y
 rw [List.length_append, List.length_singleton] at h2
 rw [h1, List.length_append, List.length_singleton, h2, show G ++ [x] ++ [y] = G ++ [x, y] by simp]
set_option maxRecDepth 20000 in
theorem zl5 : zke 143 := by
 intro s w hs hp
 have c0 := fun W => Any.strings_CutPrefix Tryz.lays103 s ⟨#[58, 58]⟩ W
 rw [show (⟨#[58, 58]⟩ : ByteArray).data.toList = [58, 58] from rfl] at c0
 have hst := zlz (ls s)
 have hT0 : (bs (Lib.trimPrefix (ls s) [58, 58])).size <= 1000000000 := by
  rw [zb5]
  have := zl0 (ls s) [58, 58]
  rw [zb4] at this
  omega
 obtain ⟨T0, hT0e⟩ : ∃ T, T = bs (Lib.trimPrefix (ls s) [58, 58]) := ⟨_, rfl⟩
 obtain ⟨p0, hp0⟩ : ∃ p, p = Lib.hasPrefix (ls s) [58, 58] := ⟨_, rfl⟩
 obtain ⟨g0, hg0⟩ : ∃ g : Option Nat, g = if p0 = true then some 0 else none := ⟨_, rfl⟩
 rw [show Lib.trimPrefix (ls s) [58, 58] = ls T0 by rw [hT0e, zb0], <- hp0, <- hg0] at hst
 change ∀ W, Calls _ _ _ W fun e w' => e = .returned (.tuple #[.string (bs (Lib.trimPrefix (ls s) [58, 58])), .bool (Lib.hasPrefix (ls s) [58, 58])]) /\ w' = W at c0
 rw [<- hT0e, <- hp0] at c0
 rw [<- hT0e] at hT0
 generalize zm9 (ls s) = R at *
 have HT0 := jL hT0
 have HST := jL hst
 have HF0 : Hid (p0 = false -> gvI g0 = -1) := by
  show _ -> _
  intro e
  rw [hg0, e]; rfl
 have HT1 : Hid (p0 = true -> gvI g0 = 0) := by
  show _ -> _
  intro e
  rw [hg0, e]; rfl
 have HG1 : Hid (g0 = none \/ g0 = some 0) := by
  show _ \/ _
  cases p0
  ·left; rw [hg0]; rfl
  ·right; rw [hg0]; rfl
 have hbd := zlx
 clear hT0e hp0 hg0 hst hT0 hs
 go_enter Tryz.func143, Tryz.ntmps143
 go_wp2_with (refine zay _ rfl 2 rfl _ rfl _ zai ?_; intro W1 gr hgr hlr hR hG1; have hb1 := zav (Below.refl w.heap.size w) hG1 jH)
 go_step3
 go_wp2_with (refine zay _ rfl 4 rfl _ rfl _ zai ?_; intro W2 ga hga hla hA hG2; have hR2 : zaj W2 gr (zm8 8) := hR.grown0 hG2; have hb2 := zav hb1 hG2 jH)
 have hA2 : zaj W2 ga (zm8 8) := hA
 have hne : ga ≠ gr := by have := hR.lt; omega
 have hwa : w.heap.size <= ga := by have := hb1.size; omega
 clear hR hG1 hG2 hA hb1
 refine (c0 _).mono ?_
 rintro e w' ⟨rfl, hw'⟩
 subst hw'
 clear c0
 go_upto_if 19 with fail
 go_cut [6] from 19 to 19 (fun g wx => wx = w' /\ g = .int .i64 (gvI g0))
 case first =>
  cases p0
  ·go_wp2_with fail
   go_meet
   exact ⟨rfl, by rw [HF0.out (by first | rfl | trivial)]⟩
  ·go_wp2_with fail
   go_meet
   exact ⟨rfl, by rw [HT1.out (by first | rfl | trivial)]⟩
 case rest =>
  obtain ⟨hwx, hgx⟩ := hcut
  subst hwx
  clear HF0 HT1
  go_wp2_with fail
  go_step3
  go_upto_block 0 with fail
  go_cut [5, 6] from 7 to 94 (fun c g wx => ∃ (G : List Nat) (gap : Option Nat), c = .int .i64 (G.length : Nat) /\ g = .int .i64 (gvI gap) /\ Hid (G.length <= 8) /\ Hid (∀ m, gap = some m -> m <= G.length) /\ Hid (zml G gap = R) /\ zaj wx ga (G ++ zm8 (8 - G.length)) /\ zaj wx gr (zm8 8) /\ Below w.heap.size w wx)
  case first =>
   go_wp2_with fail
   go_loopg [5, 6, 7] T0.size (fun q c g t wr => ∃ (T : ByteArray) (G : List Nat) (gap : Option Nat), q = T.size /\ c = .int .i64 (G.length : Nat) /\ g = .int .i64 (gvI gap) /\ t = .string T /\ Hid (T.size <= 1000000000) /\ Hid (G.length <= 8) /\ Hid (∀ m, gap = some m -> m <= G.length) /\ Hid (sp6 (ls T) G gap = R) /\ zaj wr ga (G ++ zm8 (8 - G.length)) /\ zaj wr gr (zm8 8) /\ Below w.heap.size w wr)
   case atStart =>
    refine ⟨T0, [], g0, rfl, rfl, hgx, rfl, HT0, jL (Nat.zero_le _), ?_, HST, hA2, hR2, hb2⟩
    rcases HG1.out with e | e
    ·exact jL fun m h => by rw [e] at h; cases h
    ·exact jL fun m h => by rw [e] at h; injection h with h; omega
   case round =>
    clear hgx HST HG1 hA2 hR2 hb2 hla HT0
    obtain ⟨T, G, gap, hq, rfl, rfl, rfl, HT, HGL, HGM, HSP, hrA, hrR, hb⟩ := hrel
    have HQ := jL hq
    clear hq
    obtain ⟨n, hn⟩ : ∃ n : Nat, n = G.length := ⟨_, rfl⟩
    have hn8 : n <= 8 := by rw [hn]; exact HGL.out
    have HN := jL hn
    rw [<- hn] at hrA ⊢
    obtain ⟨gv, hgv⟩ : ∃ z : Int, z = gvI gap := ⟨_, rfl⟩
    have HGV := jL hgv
    rw [<- hgv]
    clear hn hgv
    by_cases hT : T.size = 0
    ·have hE : (T.toList == ([] : List UInt8)) = true := by rw [zqr, jT hT]
     have hE2 : T.toList.isEmpty = true := by rw [zb3, List.isEmpty_iff]; exact List.eq_nil_of_length_eq_zero (by rw [zb4]; exact hT)
     have hTn : ls T = [] := List.eq_nil_of_length_eq_zero (by rw [zb4]; exact hT)
     by_cases hgn : (n : Int) = gv
     ·have heq : ((n : Int) == gv) = true := beq_iff_eq.2 hgn
      have hnq : ((n : Int) != gv) = false := by rw [bne, heq]; rfl
      have HF : Hid (zml G gap = R) := by
       show _ = _
       rw [<- HSP.out, hTn]
       have h1 := HGV.out
       cases gap with
       | none => exfalso; rw [zlv] at h1; omega
       | some m =>
         rw [zlw] at h1
         have hmn : m = G.length := by rw [<- HN.out]; omega
         rw [hmn, zl1]
      clear hT hTn
      have HGN := jL hgn
      clear hgn
      go_wp2_with fail
      go_meet
      exact ⟨G, gap, by rw [HN.out], by rw [HGV.out], HGL, HGM, HF, by rw [<- HN.out]; exact hrA, hrR, hb⟩
     ·have heq : ((n : Int) == gv) = false := beq_eq_false_iff_ne.2 hgn
      have hnq : ((n : Int) != gv) = true := by rw [bne, heq]; rfl
      have HRS : Hid (R = none) := by
       show _ = _
       rw [<- HSP.out]
       refine zmz (k := 0) (fun e => hgn ?_) (by rw [hTn]; rfl) (.inl rfl)
       rw [HGV.out, e.2, HN.out]; rfl
      have c1 := fun W => zkn T HT.out W
      rw [hTn, show zl6 4 [] = 0 from rfl] at c1
      rw [List.take_zero, show zpi 16 0 [] = 0 from rfl] at c1
      simp only [show ((0 : Nat) : Int) = 0 from rfl] at c1
      clear hT hTn hgn
      go_wp2_with fail
      refine (c1 _).mono ?_
      rintro e w' ⟨rfl, rfl⟩
      go_wp2_with (refine za0 _ rfl rfl _ _ _ rfl gr (by exact rfl) (av (zm8 8)) (by exact rfl) _ _ hrR (zah _ rfl) rfl (zac _) ?_; intro W9 hR9 hG9)
      rw [Exit.noGoto_ret]
      (try simp only [Exit.inBlock, Exit.then])
      refine zak _ _ rfl gr rfl (zm8 8) hR9 rfl _ rfl rfl ?_
      exact ⟨by rw [HRS.out]; rfl, zau hb hG9 jH hgr⟩
    ·have hpos : 0 < T.size := Nat.pos_of_ne_zero hT
     have hE : (T.toList == ([] : List UInt8)) = false := by rw [zqr, jF hT]
     have hE2 : T.toList.isEmpty = false := by
      rw [zb3]
      cases h : ls T with
      | nil => exact absurd (by rw [<- zb4, h]; rfl) hT
      | cons => rfl
     have hTne : Hid (ls T ≠ []) := by
      show _ ≠ _
      intro h
      exact hT (by rw [<- zb4, h]; rfl)
     have c1 := fun W => zkn T HT.out W
     obtain ⟨k, hk⟩ : ∃ k, zl6 4 (ls T) = k := ⟨_, rfl⟩
     rw [hk] at c1
     have hkl := zl7 4 (ls T)
     rw [hk, zb4] at hkl
     obtain ⟨hk4, hks⟩ := hkl
     have hvl : zpi 16 0 ((ls T).take k) < 65536 := by
      have h1 := zkl (ls T) k (by rw [<- hk]; exact zma 4 (ls T))
      have h2 : (16 : Nat) ^ k <= 16 ^ 4 := Nat.pow_le_pow_right (by decide) (by omega)
      have e : (16 : Nat) ^ 4 = 65536 := by decide
      omega
     obtain ⟨v, hv⟩ : ∃ v, v = zpi 16 0 ((ls T).take k) := ⟨_, rfl⟩
     rw [<- hv] at c1 hvl
     have HK := jL hk
     have HV := jL hv
     clear hk hv hT
     by_cases hk0 : k = 0
     ·subst hk0
      have HRS : Hid (R = none) := by
       show _ = _
       rw [<- HSP.out]
       exact zmz (fun e => hTne.out e.1) HK.out (.inl rfl)
      simp only [show ((0 : Nat) : Int) = 0 from rfl] at c1
      go_wp2_with fail
      refine (c1 _).mono ?_
      rintro e w' ⟨rfl, rfl⟩
      go_wp2_with (refine za0 _ rfl rfl _ _ _ rfl gr (by exact rfl) (av (zm8 8)) (by exact rfl) _ _ hrR (zah _ rfl) rfl (zac _) ?_; intro W9 hR9 hG9)
      rw [Exit.noGoto_ret]
      (try simp only [Exit.inBlock, Exit.then])
      refine zak _ _ rfl gr rfl (zm8 8) hR9 rfl _ rfl rfl ?_
      exact ⟨by rw [HRS.out]; rfl, zau hb hG9 jH hgr⟩
     ·have hk1 : ((k : Int) == 0) = false := by rw [beq_eq_false_iff_ne]; omega
      have hk0' : 0 < k := Nat.pos_of_ne_zero hk0
      have HK0 := jL hk0'
      clear hk0 hk0'
      by_cases h8 : n = 8
      ·subst h8
       have HRS : Hid (R = none) := by
        show _ = _
        rw [<- HSP.out]
        exact zmu (ls T) G gap (fun e => hTne.out e.1) (by rw [<- HN.out]; exact jH)
       go_wp2_with fail
       refine (c1 _).mono ?_
       rintro e w' ⟨rfl, rfl⟩
       go_wp2_with (refine za0 _ rfl rfl _ _ _ rfl gr (by exact rfl) (av (zm8 8)) (by exact rfl) _ _ hrR (zah _ rfl) rfl (zac _) ?_; intro W9 hR9 hG9)
       rw [Exit.noGoto_ret]
       (try simp only [Exit.inBlock, Exit.then])
       refine zak _ _ rfl gr rfl (zm8 8) hR9 rfl _ rfl rfl ?_
       exact ⟨by rw [HRS.out]; rfl, zau hb hG9 jH hgr⟩
      ·have hn7 : n < 8 := by omega
       have h81 : ((n : Int) == 8) = false := by rw [beq_eq_false_iff_ne]; omega
       clear h8 hn8
       have hkC : n < (av (G ++ zm8 (8 - n))).size := by rw [zaa, HN.out, zl3 G HGL.out]; have := HN.out; omega
       have hk0i : (0 : Int) <= (k : Int) := by omega
       have hksi : (k : Int) <= (T.size : Int) := by omega
       go_upto_region 14 with (first
        | (go_at_call 174; refine (c1 _).mono ?_; rintro e w' ⟨rfl, rfl⟩)
        | (refine za1 _ rfl rfl _ _ _ rfl ga n (by exact rfl) (.int .u16 (v : Int)) (by exact rfl) (by exact rfl) _ (av (G ++ zm8 (8 - n))) hrA hkC zju ?_; intro W3 hr3 hg3))
       have hA3 : zaj W3 ga ((G ++ [v]) ++ zm8 (8 - (G ++ [v]).length)) := by
        rw [zab, HN.out, zl2 G (by rw [<- HN.out]; exact hn7) v] at hr3
        exact hr3
       have hR3 : zaj W3 gr (zm8 8) := Row.grown hrR hg3 (fun e => hne e.symm)
       have hb3 := zau hb hg3 jH hwa
       clear hr3 hg3 hrA hrR hkC c1 hb
       obtain ⟨U, hU⟩ : ∃ U, U = T.extract k T.size := ⟨_, rfl⟩
       rw [<- hU]
       have hlu : ls U = (ls T).drop k := by
        rw [hU, zb9, List.take_of_length_le (by rw [List.length_drop, zb4]; exact jH)]
       have hus : U.size = T.size - k := by rw [<- zb4, hlu, List.length_drop, zb4]
       have HLU := jL hlu
       have HUS := jL hus
       have HGL2 : Hid ((G ++ [v]).length <= 8) := by show _ <= _; rw [List.length_append, <- HN.out]; simp; omega
       have HGM2 : Hid (∀ m, gap = some m -> m <= (G ++ [v]).length) := by
        show ∀ m, _ -> _
        intro m hm
        have := HGM.out m hm
        rw [List.length_append]; omega
       have HL2 : Hid ((G ++ [v]).length = n + 1) := by show _ = _; rw [List.length_append, <- HN.out]; rfl
       have hcnt : Value.int .i64 ((n : Int) + 1) = Value.int .i64 (((G ++ [v]).length : Nat) : Int) := by rw [HL2.out]; rfl
       have HCNT := jL hcnt
       have hUb : U.size <= 1000000000 := by have := HT.out; omega
       have HUB := jL hUb
       clear hlu hus hU hk0i hksi hks hcnt
       by_cases hU0 : U.size = 0
       ·have hEU : (U.toList == ([] : List UInt8)) = true := by rw [zqr, jT hU0]
        have hEU2 : U.toList.isEmpty = true := by rw [zb3, List.isEmpty_iff]; exact List.eq_nil_of_length_eq_zero (by rw [zb4]; exact hU0)
        have HF : Hid (zml (G ++ [v]) gap = R) := by
         show _ = _
         rw [<- HSP.out, zm0 HK.out HK0.out (by rw [<- HLU.out]; exact List.eq_nil_of_length_eq_zero (by rw [zb4]; exact hU0)), HV.out]
        clear hU0
        go_wp2_with fail
        go_meet
        exact ⟨G ++ [v], gap, HCNT.out, by rw [HGV.out], HGL2, HGM2, HF, hA3, hR3, hb3⟩
       ·have hup : 0 < U.size := Nat.pos_of_ne_zero hU0
        have hEU : (U.toList == ([] : List UInt8)) = false := by rw [zqr, jF hU0]
        have hEU2 : U.toList.isEmpty = false := by
         rw [zb3]
         cases h : ls U with
         | nil => exact absurd (by rw [<- zb4, h]; rfl) hU0
         | cons => rfl
        have hD : (ls T).drop k = U[0] :: (ls U).drop 1 := by
         rw [<- HLU.out]
         have := zcc U 0 hup
         rwa [List.drop_zero] at this
        have HD := jL hD
        clear hD hU0
        by_cases h46 : U[0] = 46
        ·have hq : ((U[0].toNat : Int) == 46) = true := by rw [h46]; rfl
         have hdot := zm1 (G := G) (gap := gap) HK.out (by rw [HD.out, h46])
         rw [HSP.out] at hdot
         have c2 := zqx T W3 HT.out (zwi hp hb3).1
         cases hpl : zpr (ls T) with
         | none =>
           rw [hpl] at hdot c2
           simp only at hdot
           rw [show aV (none : Option Nat) = 0 from rfl, show aK (none : Option Nat) = false from rfl] at c2
           have HRS := jL hdot
           clear hdot hpl h46
           go_wp2_with fail
           refine c2.mono ?_
           rintro e W4 ⟨rfl, hb4'⟩
           have hb4 := hb3.trans (hb4'.mono hb3.size)
           have hR4 : zaj W4 gr (zm8 8) := Row.below hR3 hb4' hR3.lt
           go_wp2_with (refine za0 _ rfl rfl _ _ _ rfl gr (by exact rfl) (av (zm8 8)) (by exact rfl) _ _ hR4 (zah _ rfl) rfl (zac _) ?_; intro W9 hR9 hG9)
           rw [Exit.noGoto_ret]
           (try simp only [Exit.inBlock, Exit.then])
           refine zak _ _ rfl gr rfl (zm8 8) hR9 rfl _ rfl rfl ?_
           exact ⟨by rw [HRS.out]; rfl, zau hb4 hG9 jH hgr⟩
         | some u =>
           rw [hpl] at hdot c2
           simp only at hdot
           rw [show aV (some u) = (u : Int) from rfl, show aK (some u) = true from rfl] at c2
           have hub := (zqg hpl).1
           have HDOT := jL hdot
           clear hdot hpl h46
           by_cases h7 : n = 7
           ·have HRS : Hid (R = none) := by
             show _ = _
             rw [HDOT.out]
             exact zmq _ _ (by rw [List.length_append, <- HN.out, h7]; exact Nat.le_refl 9)
            have hc8 : ((n : Int) + 1 == 8) = true := by rw [h7]; rfl
            have HH7 := jL h7
            clear h7
            go_wp2_with fail
            refine c2.mono ?_
            rintro e W4 ⟨rfl, hb4'⟩
            have hb4 := hb3.trans (hb4'.mono hb3.size)
            have hR4 : zaj W4 gr (zm8 8) := Row.below hR3 hb4' hR3.lt
            go_wp2_with (refine za0 _ rfl rfl _ _ _ rfl gr (by exact rfl) (av (zm8 8)) (by exact rfl) _ _ hR4 (zah _ rfl) rfl (zac _) ?_; intro W9 hR9 hG9)
            rw [Exit.noGoto_ret]
            (try simp only [Exit.inBlock, Exit.then])
            refine zak _ _ rfl gr rfl (zm8 8) hR9 rfl _ rfl rfl ?_
            exact ⟨by rw [HRS.out]; rfl, zau hb4 hG9 jH hgr⟩
           ·have hc8 : ((n : Int) + 1 == 8) = false := by rw [beq_eq_false_iff_ne]; omega
            have hn6 : n < 7 := by omega
            obtain ⟨x, hx⟩ : ∃ x, x = u / 65536 := ⟨_, rfl⟩
            obtain ⟨y, hy⟩ : ∃ y, y = u % 65536 := ⟨_, rfl⟩
            have hx1 : (u : Int) / 65536 = (x : Int) := by omega
            have hx2 : IntKind.u16.wrap (x : Int) = (x : Int) := by rw [IntKind.wrap_u16]; omega
            have hy2 : IntKind.u16.wrap (u : Int) = (y : Int) := by rw [IntKind.wrap_u16]; omega
            rw [<- hx, <- hy] at HDOT
            have hs1 := zl4 G (by rw [<- HN.out]; exact hn6) v x y
            rw [<- HN.out] at hs1
            have hC1 : n < (av ((G ++ [v]) ++ zm8 (8 - (G ++ [v]).length))).size := by rw [zaa, zl3 (G ++ [v]) HGL2.out]; omega
            have hC2 : n + 1 < (av (((G ++ [v]) ++ zm8 (8 - (G ++ [v]).length)).set n x)).size := by rw [zaa, List.length_set, zl3 (G ++ [v]) HGL2.out]; omega
            have HS1 := jL hs1
            have HL3 : Hid ((G ++ [x, y]).length = n + 2) := by show _ = _; rw [List.length_append, <- HN.out]; rfl
            have hn0 : (0 : Int) <= (n : Int) := by omega
            clear h7 hx hy hs1
            go_wp2_with fail
            refine c2.mono ?_
            rintro e W4 ⟨rfl, hb4'⟩
            have hb4 := hb3.trans (hb4'.mono hb3.size)
            have hA4 : Row W4 ga 24 (av ((G ++ [v]) ++ zm8 (8 - (G ++ [v]).length))) := Row.below hA3 hb4' hA3.lt
            have hR4 : zaj W4 gr (zm8 8) := Row.below hR3 hb4' hR3.lt
            go_wp2_with (first
             | (refine za1 _ rfl rfl _ _ _ rfl ga n (by exact rfl) (.int .u16 (x : Int)) (by exact rfl) (by exact rfl) _ _ hA4 hC1 zju ?_; intro W5 hr5 hg5; rw [zab] at hr5)
             | (refine za1 _ rfl rfl _ _ _ rfl ga (n + 1) (by exact rfl) (.int .u16 (y : Int)) (by exact rfl) (by exact rfl) _ _ hr5 hC2 zju ?_; intro W6 hr6 hg6; rw [zab, HS1.out] at hr6))
            go_meet
            exact ⟨G ++ [x, y], gap, by rw [HL3.out]; first | rfl | go_num, by rw [HGV.out], jL (by rw [HL3.out]; omega), jL (fun m hm => by have := HGM2.out m hm; rw [HL2.out] at this; rw [HL3.out]; omega), jL HDOT.out.symm, hr6, Row.grown (Row.grown hR4 hg5 (fun e => hne e.symm)) hg6 (fun e => hne e.symm), zau (zau hb4 hg5 jH hwa) hg6 jH hwa⟩
        ·have hq : ((U[0].toNat : Int) == 46) = false := zqs h46
         have H46 := jL h46
         clear h46
         by_cases h58 : U[0] = 58
         ·have hq5 : ((U[0].toNat : Int) == 58) = true := by rw [h58]; rfl
          rw [h58] at HD
          have HD58 := jL HD.out
          clear HD h58
          obtain ⟨r, hr⟩ : ∃ r, r = (ls U).drop 1 := ⟨_, rfl⟩
          have h1r : ls (U.extract 1 U.size) = r := by
           rw [zb9, List.take_of_length_le (by rw [List.length_drop, zb4]; exact jH), hr]
          rw [<- hr] at HD58
          have HR1 := jL h1r
          have HRU := jL hr
          have h1i : (1 : Int) <= (U.size : Int) := by omega
          have h1n : 1 <= U.size := hup
          have HQ1 : Hid ((U.extract 1 U.size).size < T.size) := by
           show _ < _
           rw [<- zb4, HR1.out, HRU.out, List.length_drop, zb4]
           have := HUS.out
           have := HK0.out
           omega
          have HB1 : Hid ((U.extract 1 U.size).size <= 1000000000) := by
           show _ <= _
           have := HQ1.out
           have := HT.out
           omega
          clear hr h1r
          cases gap with
          | some m =>
            have hgvm : (gv == -1) = false := by rw [HGV.out, zlw, beq_eq_false_iff_ne]; omega
            have HSP2 : Hid (sp6 (ls (U.extract 1 U.size)) (G ++ [v]) (some m) = R) := by
             show _ = _
             rw [HR1.out, HV.out, <- zm3 HK.out HK0.out HD58.out (fun e => by cases e) HGM.out, HSP.out]
            go_wp2_with fail
            go_roundg ((U.extract 1 U.size).size)
            case rel => exact ⟨U.extract 1 U.size, G ++ [v], some m, rfl, HCNT.out, by rw [HGV.out], rfl, HB1, HGL2, HGM2, HSP2, hA3, hR3, hb3⟩
            case measure => rw [HQ.out]; exact HQ1.out
          | none =>
            have hgvm : (gv == -1) = true := by rw [HGV.out, zlv]; rfl
            have c3 := fun W => Any.strings_HasPrefix Tryz.lays99 U ⟨#[58, 58]⟩ W
            rw [show (⟨#[58, 58]⟩ : ByteArray).data.toList = [58, 58] from rfl] at c3
            change ∀ W, Calls _ _ _ W fun e w' => e = .returned (.bool (Lib.hasPrefix (ls U) [58, 58])) /\ w' = W at c3
            by_cases hpx : (ls U).take 2 = [58, 58]
            ·rw [zly, jT hpx] at c3
             have hu2 : 2 <= U.size := by
              have := congrArg List.length hpx
              rw [List.length_take, zb4] at this
              simp at this
              omega
             have hu2i : (2 : Int) <= (U.size : Int) := by omega
             have h2r : ls (U.extract 2 U.size) = (ls U).drop 2 := by
              rw [zb9, List.take_of_length_le (by rw [List.length_drop, zb4]; exact jH)]
             have hTT : (ls T).drop k = 58 :: 58 :: (ls U).drop 2 := by
              rw [<- HLU.out]
              have := List.take_append_drop 2 (ls U)
              rw [hpx] at this
              exact this.symm
             have HSP2 : Hid (sp6 (ls (U.extract 2 U.size)) (G ++ [v]) (some (n + 1)) = R) := by
              show _ = _
              rw [h2r, HV.out, HN.out, <- zm2 HK.out HK0.out hTT, HSP.out]
             have HQ2 : Hid ((U.extract 2 U.size).size < T.size) := by
              show _ < _
              rw [<- zb4, h2r, List.length_drop, zb4]
              have := HUS.out
              have := HK0.out
              omega
             have HB2 : Hid ((U.extract 2 U.size).size <= 1000000000) := by
              show _ <= _
              have := HQ2.out
              have := HT.out
              omega
             clear hpx h2r hTT
             go_wp2_with fail
             refine (c3 _).mono ?_
             rintro e w' ⟨rfl, rfl⟩
             go_wp2_with fail
             go_roundg ((U.extract 2 U.size).size)
             case rel => exact ⟨U.extract 2 U.size, G ++ [v], some (n + 1), rfl, HCNT.out, by rw [zlw]; first | rfl | go_num, rfl, HB2, HGL2, jL (fun m hm => by injection hm with hm; rw [HL2.out]; omega), HSP2, hA3, hR3, hb3⟩
             case measure => rw [HQ.out]; exact HQ2.out
            ·rw [zly, jF hpx] at c3
             have HSP2 : Hid (sp6 (ls (U.extract 1 U.size)) (G ++ [v]) none = R) := by
              show _ = _
              rw [HR1.out, HV.out, <- zm3 HK.out HK0.out HD58.out (fun _ e => hpx ?_) HGM.out, HSP.out]
              rw [HLU.out, HD58.out]
              cases r with
              | nil => cases e
              | cons c t =>
                have : c = 58 := by simpa using e
                rw [this]; rfl
             clear hpx
             go_wp2_with fail
             refine (c3 _).mono ?_
             rintro e w' ⟨rfl, rfl⟩
             go_wp2_with fail
             go_roundg ((U.extract 1 U.size).size)
             case rel => exact ⟨U.extract 1 U.size, G ++ [v], none, rfl, HCNT.out, by rw [HGV.out], rfl, HB1, HGL2, HGM2, HSP2, hA3, hR3, hb3⟩
             case measure => rw [HQ.out]; exact HQ1.out
         ·have hq5 : ((U[0].toNat : Int) == 58) = false := zqs h58
          have HRS : Hid (R = none) := by
           show _ = _
           rw [<- HSP.out]
           exact zmz (fun e => hTne.out e.1) HK.out (.inr ⟨U[0], _, HD.out, h58, H46.out⟩)
          have H58 := jL h58
          clear h58
          cases gap with
          | some m =>
            have hgvm : (gv == -1) = false := by rw [HGV.out, zlw, beq_eq_false_iff_ne]; omega
            go_wp2_with (refine za0 _ rfl rfl _ _ _ rfl gr (by exact rfl) (av (zm8 8)) (by exact rfl) _ _ hR3 (zah _ rfl) rfl (zac _) ?_; intro W9 hR9 hG9)
            rw [Exit.noGoto_ret]
            (try simp only [Exit.inBlock, Exit.then])
            refine zak _ _ rfl gr rfl (zm8 8) hR9 rfl _ rfl rfl ?_
            exact ⟨by rw [HRS.out]; rfl, zau hb3 hG9 jH hgr⟩
          | none =>
            have hgvm : (gv == -1) = true := by rw [HGV.out, zlv]; rfl
            have c3 := fun W => Any.strings_HasPrefix Tryz.lays99 U ⟨#[58, 58]⟩ W
            rw [show (⟨#[58, 58]⟩ : ByteArray).data.toList = [58, 58] from rfl] at c3
            change ∀ W, Calls _ _ _ W fun e w' => e = .returned (.bool (Lib.hasPrefix (ls U) [58, 58])) /\ w' = W at c3
            have hpx : ¬ (ls U).take 2 = [58, 58] := by
             rw [HLU.out, HD.out]
             intro e
             rw [List.take_succ_cons] at e
             injection e with e
             exact H58.out e
            rw [zly, jF hpx] at c3
            clear hpx
            go_wp2_with fail
            refine (c3 _).mono ?_
            rintro e w' ⟨rfl, rfl⟩
            go_wp2_with (refine za0 _ rfl rfl _ _ _ rfl gr (by exact rfl) (av (zm8 8)) (by exact rfl) _ _ hR3 (zah _ rfl) rfl (zac _) ?_; intro W9 hR9 hG9)
            rw [Exit.noGoto_ret]
            (try simp only [Exit.inBlock, Exit.then])
            refine zak _ _ rfl gr rfl (zm8 8) hR9 rfl _ rfl rfl ?_
            exact ⟨by rw [HRS.out]; rfl, zau hb3 hG9 jH hgr⟩
  case rest =>
   obtain ⟨G, gap, rfl, rfl, HGL, HGM, HR, hr2, hr, hb⟩ := hcut
   have hgl8 := zl3 G HGL.out
   obtain ⟨n, hn⟩ : ∃ n : Nat, n = G.length := ⟨_, rfl⟩
   have hn8 : n <= 8 := by rw [hn]; exact HGL.out
   have HN := jL hn
   rw [<- hn] at hr2 hgl8 ⊢
   clear hn HST HG1 hgx hA2 hR2 hb2 hla HT0
   cases gap with
   | none =>
     by_cases h8 : n = 8
     ·have HRS : Hid (R = some (G ++ zm8 (8 - n))) := by show _ = _; rw [<- HR.out, zmp, if_pos (by rw [<- HN.out]; exact h8), h8]; simp [zm8]
      have hd : ((n : Int) == 8) = true := by rw [h8]; rfl
      obtain ⟨F, hF⟩ : ∃ F, F = G ++ zm8 (8 - n) := ⟨_, rfl⟩
      rw [<- hF] at hr2 hgl8 HRS
      clear h8 hF HR HGM HN HGL hn8
      go_wp2_with (first
       | (refine zaz _ rfl _ _ rfl ga (by exact rfl) _ (av F) hr2 8 _ zae (zah F hgl8) ?_)
       | (refine za0 _ rfl rfl _ _ _ rfl gr (by exact rfl) (av F) (by exact rfl) _ _ hr (zah F hgl8) (by rw [zaa, zaa, hgl8]; rfl) (zac F) ?_; intro W9 hR9 hG9))
      rw [Exit.noGoto_ret]
      refine zak _ _ rfl gr rfl F hR9 hgl8 _ rfl rfl ?_
      exact ⟨by rw [HRS.out]; rfl, zau hb hG9 jH hgr⟩
     ·have HRS : Hid (R = none) := by show _ = _; rw [<- HR.out, zmp, if_neg (by rw [<- HN.out]; exact h8)]
      have hd : ((n : Int) == 8) = false := by rw [beq_eq_false_iff_ne]; omega
      clear h8 HR HGM HN HGL
      go_wp2_with (refine za0 _ rfl rfl _ _ _ rfl gr (by exact rfl) (av (zm8 8)) (by exact rfl) _ _ hr (zah _ rfl) rfl (zac _) ?_; intro W9 hR9 hG9)
      rw [Exit.noGoto_ret]
      refine zak _ _ rfl gr rfl (zm8 8) hR9 rfl _ rfl rfl ?_
      exact ⟨by rw [HRS.out]; rfl, zau hb hG9 jH hgr⟩
   | some m =>
     have hm : m <= n := by rw [HN.out]; exact HGM.out m rfl
     have hd1 : ((m : Int) == -1) = false := by rw [beq_eq_false_iff_ne]; omega
     have hd2 : ((m : Int) != -1) = true := by rw [bne, hd1]; rfl
     by_cases h8 : n < 8
     ·have hd3 : decide ((n : Int) < 8) = true := jT (by omega)
      obtain ⟨F, hF⟩ : ∃ F, F = G ++ zm8 (8 - n) := ⟨_, rfl⟩
      have hFn : F.take n = G := by rw [hF, List.take_left' (by rw [HN.out])]
      have hFm : F.take m = G.take m := by rw [<- hFn, List.take_take, Nat.min_eq_left hm]
      have HRS : Hid (R = some (F.take m ++ (zm8 (8 - n) ++ (F.take n).drop m))) := by
       show _ = _
       rw [<- HR.out, zmo, if_pos (by rw [<- HN.out]; omega), <- HN.out, hFn, hFm]
      have hEl : (F.take m ++ (zm8 (8 - n) ++ (F.take n).drop m)).length = 8 := by
       rw [hFn, hFm, List.length_append, List.length_append, List.length_take, List.length_drop, <- HN.out]
       unfold zm8
       rw [List.length_replicate]
       omega
      rw [<- hF] at hr2 hgl8
      have c1 := fun W => zlu F hgl8 n m hm hn8 W
      obtain ⟨E, hE⟩ : ∃ E, E = F.take m ++ (zm8 (8 - n) ++ (F.take n).drop m) := ⟨_, rfl⟩
      rw [<- hE] at HRS hEl
      simp only [<- hE] at c1
      clear h8 hF HR HGM HN HGL hn8 hFn hFm hE hm
      go_wp2_with (first
       | (refine zaz _ rfl _ _ rfl ga (by exact rfl) _ (av F) hr2 8 _ zae (zah F hgl8) ?_)
       | (go_at_call 176; refine (c1 _).mono ?_; rintro e W8 ⟨rfl, hb8⟩; have hr8 : zaj W8 gr (zm8 8) := Row.below hr hb8 hr.lt; have hb9 := hb.trans (hb8.mono hb.size))
       | (refine za0 _ rfl rfl _ _ _ rfl gr (by exact rfl) (av E) (by exact rfl) _ _ hr8 (zah E hEl) (by rw [zaa, zaa, hEl]; rfl) (zac E) ?_; intro W9 hR9 hG9))
      rw [Exit.noGoto_ret]
      refine zak _ _ rfl gr rfl E hR9 hEl _ rfl rfl ?_
      exact ⟨by rw [HRS.out]; rfl, zau hb9 hG9 jH hgr⟩
     ·have HRS : Hid (R = none) := by show _ = _; rw [<- HR.out, zmo, if_neg (by rw [<- HN.out]; omega)]
      have hd3 : decide ((n : Int) < 8) = false := jF (by omega)
      clear h8 HR HGM HN HGL
      go_wp2_with (refine za0 _ rfl rfl _ _ _ rfl gr (by exact rfl) (av (zm8 8)) (by exact rfl) _ _ hr (zah _ rfl) rfl (zac _) ?_; intro W9 hR9 hG9)
      rw [Exit.noGoto_ret]
      refine zak _ _ rfl gr rfl (zm8 8) hR9 rfl _ rfl rfl ?_
      exact ⟨by rw [HRS.out]; rfl, zau hb hG9 jH hgr⟩
end

end Go.Proofs.YtekaljeicfjkjaaGreatDoor
