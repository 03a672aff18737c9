/-
Contract of Parse of package ipv6.
Contract of strconv.AppendUint to the base 16 for numbers of 16 bits.
-/
import Derived.Test.YtekaljeicfjkjaaGreatDoorK40
import Derived.Test.YtekaljeicfjkjaaGreatDoorK10
import Derived.Test.YtekaljeicfjkjaaGreatDoorK39
import Derived.Shelf.Small.Wraps
import Derived.Deep.CutRange
import Derived.Deep.CutBlock
import Derived.Test.YtekaljeicfjkjaaGreatDoorK03
import Derived.Test.YtekaljeicfjkjaaGreatDoorK08
import Derived.Test.YtekaljeicfjkjaaGreatDoorK09
import Derived.Test.YtekaljeicfjkjaaGreatDoorK07
namespace Go.Proofs.YtekaljeicfjkjaaGreatDoor
section
open Go.RowKit
set_option maxHeartbeats 16000000
def gvI : Option Nat -> Int
 | none => -1
 | some m => (m : Int)
theorem zmg : gvI none = -1 := rfl
theorem zmh (m : Nat) : gvI (some m) = (m : Int) := rfl
theorem zmi : ∀ W, (Instr.build 24 #[]).run Tryz.prog W = .ok (.agg (av (znt 8))) W := by
 intro W
 obtain ⟨q, hq, hq1⟩ : ∃ q, Tryz.prog.info? 23 = some q /\ q.size = 1 := by
  cases hq : Tryz.prog.info? 23 with
  | none => have := zka; rw [hq] at this; cases this
  | some q => have := zka; rw [hq] at this; exact ⟨q, rfl, by simpa using this⟩
 simp [Instr.build, run_underlying zae, sizeOf, typeInfo, hq, Instr.fill, Value.cells, Result.andThen]
 rfl
theorem zmj (l : List UInt8) : Lib.hasPrefix l [58, 58] = decide (l.take 2 = [58, 58]) := by
 unfold Lib.hasPrefix
 match l with
 | [] => rfl
 | [a] => simp [List.isPrefixOf]
 | a :: b :: r =>
   apply Bool.eq_iff_iff.2
   rw [List.isPrefixOf_iff_prefix, decide_eq_true_iff]
   constructor
   ·rintro ⟨t, ht⟩
    injection ht with h1 ht
    injection ht with h2 ht
    rw [<- h1, <- h2]; rfl
   ·intro h
    simp at h
    exact ⟨r, by rw [h.1, h.2]; rfl⟩
theorem zmk (l : List UInt8) : sp6 (Lib.trimPrefix l [58, 58]) [] (if Lib.hasPrefix l [58, 58] = true then some 0 else none) = znu l := by
 rw [znd l]
 unfold Lib.trimPrefix
 rw [zmj]
 by_cases h : l.take 2 = [58, 58]
 ·rw [jT h, if_pos rfl, if_pos rfl, if_pos h]; rfl
 ·rw [jF h, if_neg (by decide), if_neg (by decide), if_neg h]
theorem zml (l p : List UInt8) : (Lib.trimPrefix l p).length <= l.length := by
 unfold Lib.trimPrefix
 split
 ·simp
 ·exact jH
theorem zmm (G : List Nat) : sp6 [] G (some G.length) = zm6 G (some G.length) := by
 rw [zm7]
 unfold spB
 rw [if_pos ⟨rfl, rfl⟩]
 simp
theorem zmn (G : List Nat) (h : G.length < 8) (v : Nat) : (G ++ znt (8 - G.length)).set G.length v = (G ++ [v]) ++ znt (8 - (G ++ [v]).length) := by
 rw [List.set_append_right _ _ jH, Nat.sub_self, List.length_append, List.append_assoc]
 obtain ⟨q, hq⟩ : ∃ q, 8 - G.length = q + 1 := ⟨8 - G.length - 1, by omega⟩
 rw [hq, show 8 - (G.length + [v].length) = q by simp; omega]
 rfl
theorem zmo (G : List Nat) (h : G.length <= 8) : (G ++ znt (8 - G.length)).length = 8 := by
 rw [List.length_append]
 unfold znt
 rw [List.length_replicate]
 omega
theorem zmp (G : List Nat) (h : G.length < 7) (v x y : Nat) : (((G ++ [v]) ++ znt (8 - (G ++ [v]).length)).set G.length x).set (G.length + 1) y = (G ++ [x, y]) ++ znt (8 - (G ++ [x, y]).length) := by
 have h1 : ((G ++ [v]) ++ znt (8 - (G ++ [v]).length)).set G.length x = (G ++ [x]) ++ znt (8 - (G ++ [x]).length) := by
  rw [List.append_assoc, List.set_append_right _ _ jH, Nat.sub_self, List.append_assoc, List.length_append, List.length_append]
  rfl
 have h2 := zmn (G ++ [x]) (by simp; omega) y
 rw [List.length_append, List.length_singleton] at h2
 rw [h1, List.length_append, List.length_singleton, h2, show G ++ [x] ++ [y] = G ++ [x, y] by simp]
set_option maxRecDepth 20000 in
theorem zmq : zkz 143 := by
 intro s w hs hp
 have c0 := fun W => Any.strings_CutPrefix Tryz.lays103 s ⟨#[58, 58]⟩ W
 rw [show (⟨#[58, 58]⟩ : ByteArray).data.toList = [58, 58] from rfl] at c0
 have hst := zmk (ls s)
 have hT0 : (bs (Lib.trimPrefix (ls s) [58, 58])).size <= 1000000000 := by
  rw [zb5]
  have := zml (ls s) [58, 58]
  rw [zb4] at this
  omega
 obtain ⟨T0, hT0e⟩ : ∃ T, T = bs (Lib.trimPrefix (ls s) [58, 58]) := ⟨_, rfl⟩
 obtain ⟨p0, hp0⟩ : ∃ p, p = Lib.hasPrefix (ls s) [58, 58] := ⟨_, rfl⟩
 obtain ⟨g0, hg0⟩ : ∃ g : Option Nat, g = if p0 = true then some 0 else none := ⟨_, rfl⟩
 rw [show Lib.trimPrefix (ls s) [58, 58] = ls T0 by rw [hT0e, zb0], <- hp0, <- hg0] at hst
 change ∀ W, Calls _ _ _ W fun e w' => e = .returned (.tuple #[.string (bs (Lib.trimPrefix (ls s) [58, 58])), .bool (Lib.hasPrefix (ls s) [58, 58])]) /\ w' = W at c0
 rw [<- hT0e, <- hp0] at c0
 rw [<- hT0e] at hT0
 generalize znu (ls s) = R at *
 have HT0 := jL hT0
 have HST := jL hst
 have HF0 : Hid (p0 = false -> gvI g0 = -1) := by
  show _ -> _
  intro e
  rw [hg0, e]; rfl
 have HT1 : Hid (p0 = true -> gvI g0 = 0) := by
  show _ -> _
  intro e
  rw [hg0, e]; rfl
 have HG1 : Hid (g0 = none \/ g0 = some 0) := by
  show _ \/ _
  cases p0
  ·left; rw [hg0]; rfl
  ·right; rw [hg0]; rfl
 have hbd := zmi
 clear hT0e hp0 hg0 hst hT0 hs
 go_enter Tryz.func143, Tryz.ntmps143
 go_wp2_with (refine zay _ rfl 2 rfl _ rfl _ zai ?_; intro W1 gr hgr hlr hR hG1; have hb1 := zav (Below.refl w.heap.size w) hG1 jH)
 go_step3
 go_wp2_with (refine zay _ rfl 4 rfl _ rfl _ zai ?_; intro W2 ga hga hla hA hG2; have hR2 : zaj W2 gr (znt 8) := hR.grown0 hG2; have hb2 := zav hb1 hG2 jH)
 have hA2 : zaj W2 ga (znt 8) := hA
 have hne : ga ≠ gr := by have := hR.lt; omega
 have hwa : w.heap.size <= ga := by have := hb1.size; omega
 clear hR hG1 hG2 hA hb1
 refine (c0 _).mono ?_
 rintro e w' ⟨rfl, hw'⟩
 subst hw'
 clear c0
 go_upto_if 19 with fail
 go_cut [6] from 19 to 19 (fun g wx => wx = w' /\ g = .int .i64 (gvI g0))
 case first =>
  cases p0
  ·go_wp2_with fail
   go_meet
   exact ⟨rfl, by rw [HF0.out (by first | rfl | trivial)]⟩
  ·go_wp2_with fail
   go_meet
   exact ⟨rfl, by rw [HT1.out (by first | rfl | trivial)]⟩
 case rest =>
  obtain ⟨hwx, hgx⟩ := hcut
  subst hwx
  clear HF0 HT1
  go_wp2_with fail
  go_step3
  go_upto_block 0 with fail
  go_cut [5, 6] from 7 to 94 (fun c g wx => ∃ (G : List Nat) (gap : Option Nat), c = .int .i64 (G.length : Nat) /\ g = .int .i64 (gvI gap) /\ Hid (G.length <= 8) /\ Hid (∀ m, gap = some m -> m <= G.length) /\ Hid (zm6 G gap = R) /\ zaj wx ga (G ++ znt (8 - G.length)) /\ zaj wx gr (znt 8) /\ Below w.heap.size w wx)
  case first =>
   go_wp2_with fail
   go_loopg [5, 6, 7] T0.size (fun q c g t wr => ∃ (T : ByteArray) (G : List Nat) (gap : Option Nat), q = T.size /\ c = .int .i64 (G.length : Nat) /\ g = .int .i64 (gvI gap) /\ t = .string T /\ Hid (T.size <= 1000000000) /\ Hid (G.length <= 8) /\ Hid (∀ m, gap = some m -> m <= G.length) /\ Hid (sp6 (ls T) G gap = R) /\ zaj wr ga (G ++ znt (8 - G.length)) /\ zaj wr gr (znt 8) /\ Below w.heap.size w wr)
   case atStart =>
    refine ⟨T0, [], g0, rfl, rfl, hgx, rfl, HT0, jL (Nat.zero_le _), ?_, HST, hA2, hR2, hb2⟩
    rcases HG1.out with e | e
    ·exact jL fun m h => by rw [e] at h; cases h
    ·exact jL fun m h => by rw [e] at h; injection h with h; omega
   case round =>
    clear hgx HST HG1 hA2 hR2 hb2 hla HT0
    obtain ⟨T, G, gap, hq, rfl, rfl, rfl, HT, HGL, HGM, HSP, hrA, hrR, hb⟩ := hrel
    have HQ := jL hq
    clear hq
    obtain ⟨n, hn⟩ : ∃ n : Nat, n = G.length := ⟨_, rfl⟩
    have hn8 : n <= 8 := by rw [hn]; exact HGL.out
    have HN := jL hn
    rw [<- hn] at hrA ⊢
    obtain ⟨gv, hgv⟩ : ∃ z : Int, z = gvI gap := ⟨_, rfl⟩
    have HGV := jL hgv
    rw [<- hgv]
    clear hn hgv
    by_cases hT : T.size = 0
    ·have hE : (T.toList == ([] : List UInt8)) = true := by rw [zro, jT hT]
     have hE2 : T.toList.isEmpty = true := by rw [zb3, List.isEmpty_iff]; exact List.eq_nil_of_length_eq_zero (by rw [zb4]; exact hT)
     have hTn : ls T = [] := List.eq_nil_of_length_eq_zero (by rw [zb4]; exact hT)
     by_cases hgn : (n : Int) = gv
     ·have heq : ((n : Int) == gv) = true := beq_iff_eq.2 hgn
      have hnq : ((n : Int) != gv) = false := by rw [bne, heq]; rfl
      have HF : Hid (zm6 G gap = R) := by
       show _ = _
       rw [<- HSP.out, hTn]
       have h1 := HGV.out
       cases gap with
       | none => exfalso; rw [zmg] at h1; omega
       | some m =>
         rw [zmh] at h1
         have hmn : m = G.length := by rw [<- HN.out]; omega
         rw [hmn, zmm]
      clear hT hTn
      have HGN := jL hgn
      clear hgn
      go_wp2_with fail
      go_meet
      exact ⟨G, gap, by rw [HN.out], by rw [HGV.out], HGL, HGM, HF, by rw [<- HN.out]; exact hrA, hrR, hb⟩
     ·have heq : ((n : Int) == gv) = false := beq_eq_false_iff_ne.2 hgn
      have hnq : ((n : Int) != gv) = true := by rw [bne, heq]; rfl
      have HRS : Hid (R = none) := by
       show _ = _
       rw [<- HSP.out]
       refine znk (k := 0) (fun e => hgn ?_) (by rw [hTn]; rfl) (.inl rfl)
       rw [HGV.out, e.2, HN.out]; rfl
      have c1 := fun W => zk8 T HT.out W
      rw [hTn, show zmr 4 [] = 0 from rfl] at c1
      rw [List.take_zero, show zqf 16 0 [] = 0 from rfl] at c1
      simp only [show ((0 : Nat) : Int) = 0 from rfl] at c1
      clear hT hTn hgn
      go_wp2_with fail
      refine (c1 _).mono ?_
      rintro e w' ⟨rfl, rfl⟩
      go_wp2_with (refine za0 _ rfl rfl _ _ _ rfl gr (by exact rfl) (av (znt 8)) (by exact rfl) _ _ hrR (zah _ rfl) rfl (zac _) ?_; intro W9 hR9 hG9)
      rw [Exit.noGoto_ret]
      (try simp only [Exit.inBlock, Exit.then])
      refine zak _ _ rfl gr rfl (znt 8) hR9 rfl _ rfl rfl ?_
      exact ⟨by rw [HRS.out]; rfl, zau hb hG9 jH hgr⟩
    ·have hpos : 0 < T.size := Nat.pos_of_ne_zero hT
     have hE : (T.toList == ([] : List UInt8)) = false := by rw [zro, jF hT]
     have hE2 : T.toList.isEmpty = false := by
      rw [zb3]
      cases h : ls T with
      | nil => exact absurd (by rw [<- zb4, h]; rfl) hT
      | cons => rfl
     have hTne : Hid (ls T ≠ []) := by
      show _ ≠ _
      intro h
      exact hT (by rw [<- zb4, h]; rfl)
     have c1 := fun W => zk8 T HT.out W
     obtain ⟨k, hk⟩ : ∃ k, zmr 4 (ls T) = k := ⟨_, rfl⟩
     rw [hk] at c1
     have hkl := zms 4 (ls T)
     rw [hk, zb4] at hkl
     obtain ⟨hk4, hks⟩ := hkl
     have hvl : zqf 16 0 ((ls T).take k) < 65536 := by
      have h1 := zk6 (ls T) k (by rw [<- hk]; exact zmv 4 (ls T))
      have h2 : (16 : Nat) ^ k <= 16 ^ 4 := Nat.pow_le_pow_right (by decide) (by omega)
      have e : (16 : Nat) ^ 4 = 65536 := by decide
      omega
     obtain ⟨v, hv⟩ : ∃ v, v = zqf 16 0 ((ls T).take k) := ⟨_, rfl⟩
     rw [<- hv] at c1 hvl
     have HK := jL hk
     have HV := jL hv
     clear hk hv hT
     by_cases hk0 : k = 0
     ·subst hk0
      have HRS : Hid (R = none) := by
       show _ = _
       rw [<- HSP.out]
       exact znk (fun e => hTne.out e.1) HK.out (.inl rfl)
      simp only [show ((0 : Nat) : Int) = 0 from rfl] at c1
      go_wp2_with fail
      refine (c1 _).mono ?_
      rintro e w' ⟨rfl, rfl⟩
      go_wp2_with (refine za0 _ rfl rfl _ _ _ rfl gr (by exact rfl) (av (znt 8)) (by exact rfl) _ _ hrR (zah _ rfl) rfl (zac _) ?_; intro W9 hR9 hG9)
      rw [Exit.noGoto_ret]
      (try simp only [Exit.inBlock, Exit.then])
      refine zak _ _ rfl gr rfl (znt 8) hR9 rfl _ rfl rfl ?_
      exact ⟨by rw [HRS.out]; rfl, zau hb hG9 jH hgr⟩
     ·have hk1 : ((k : Int) == 0) = false := by rw [beq_eq_false_iff_ne]; omega
      have hk0' : 0 < k := Nat.pos_of_ne_zero hk0
      have HK0 := jL hk0'
      clear hk0 hk0'
      by_cases h8 : n = 8
      ·subst h8
       have HRS : Hid (R = none) := by
        show _ = _
        rw [<- HSP.out]
        exact znf (ls T) G gap (fun e => hTne.out e.1) (by rw [<- HN.out]; exact jH)
       go_wp2_with fail
       refine (c1 _).mono ?_
       rintro e w' ⟨rfl, rfl⟩
       go_wp2_with (refine za0 _ rfl rfl _ _ _ rfl gr (by exact rfl) (av (znt 8)) (by exact rfl) _ _ hrR (zah _ rfl) rfl (zac _) ?_; intro W9 hR9 hG9)
       rw [Exit.noGoto_ret]
       (try simp only [Exit.inBlock, Exit.then])
       refine zak _ _ rfl gr rfl (znt 8) hR9 rfl _ rfl rfl ?_
       exact ⟨by rw [HRS.out]; rfl, zau hb hG9 jH hgr⟩
      ·have hn7 : n < 8 := by omega
       have h81 : ((n : Int) == 8) = false := by rw [beq_eq_false_iff_ne]; omega
       clear h8 hn8
       have hkC : n < (av (G ++ znt (8 - n))).size := by rw [zaa, HN.out, zmo G HGL.out]; have := HN.out; omega
       have hk0i : (0 : Int) <= (k : Int) := by omega
       have hksi : (k : Int) <= (T.size : Int) := by omega
       go_upto_region 14 with (first
        | (go_at_call 174; refine (c1 _).mono ?_; rintro e w' ⟨rfl, rfl⟩)
        | (refine za1 _ rfl rfl _ _ _ rfl ga n (by exact rfl) (.int .u16 (v : Int)) (by exact rfl) (by exact rfl) _ (av (G ++ znt (8 - n))) hrA hkC zka ?_; intro W3 hr3 hg3))
       have hA3 : zaj W3 ga ((G ++ [v]) ++ znt (8 - (G ++ [v]).length)) := by
        rw [zab, HN.out, zmn G (by rw [<- HN.out]; exact hn7) v] at hr3
        exact hr3
       have hR3 : zaj W3 gr (znt 8) := Row.grown hrR hg3 (fun e => hne e.symm)
       have hb3 := zau hb hg3 jH hwa
       clear hr3 hg3 hrA hrR hkC c1 hb
       obtain ⟨U, hU⟩ : ∃ U, U = T.extract k T.size := ⟨_, rfl⟩
       rw [<- hU]
       have hlu : ls U = (ls T).drop k := by
        rw [hU, zb9, List.take_of_length_le (by rw [List.length_drop, zb4]; exact jH)]
       have hus : U.size = T.size - k := by rw [<- zb4, hlu, List.length_drop, zb4]
       have HLU := jL hlu
       have HUS := jL hus
       have HGL2 : Hid ((G ++ [v]).length <= 8) := by show _ <= _; rw [List.length_append, <- HN.out]; simp; omega
       have HGM2 : Hid (∀ m, gap = some m -> m <= (G ++ [v]).length) := by
        show ∀ m, _ -> _
        intro m hm
        have := HGM.out m hm
        rw [List.length_append]; omega
       have HL2 : Hid ((G ++ [v]).length = n + 1) := by show _ = _; rw [List.length_append, <- HN.out]; rfl
       have hcnt : Value.int .i64 ((n : Int) + 1) = Value.int .i64 (((G ++ [v]).length : Nat) : Int) := by rw [HL2.out]; rfl
       have HCNT := jL hcnt
       have hUb : U.size <= 1000000000 := by have := HT.out; omega
       have HUB := jL hUb
       clear hlu hus hU hk0i hksi hks hcnt
       by_cases hU0 : U.size = 0
       ·have hEU : (U.toList == ([] : List UInt8)) = true := by rw [zro, jT hU0]
        have hEU2 : U.toList.isEmpty = true := by rw [zb3, List.isEmpty_iff]; exact List.eq_nil_of_length_eq_zero (by rw [zb4]; exact hU0)
        have HF : Hid (zm6 (G ++ [v]) gap = R) := by
         show _ = _
         rw [<- HSP.out, znl HK.out HK0.out (by rw [<- HLU.out]; exact List.eq_nil_of_length_eq_zero (by rw [zb4]; exact hU0)), HV.out]
        clear hU0
        go_wp2_with fail
        go_meet
        exact ⟨G ++ [v], gap, HCNT.out, by rw [HGV.out], HGL2, HGM2, HF, hA3, hR3, hb3⟩
       ·have hup : 0 < U.size := Nat.pos_of_ne_zero hU0
        have hEU : (U.toList == ([] : List UInt8)) = false := by rw [zro, jF hU0]
        have hEU2 : U.toList.isEmpty = false := by
         rw [zb3]
         cases h : ls U with
         | nil => exact absurd (by rw [<- zb4, h]; rfl) hU0
         | cons => rfl
        have hD : (ls T).drop k = U[0] :: (ls U).drop 1 := by
         rw [<- HLU.out]
         have := zcc U 0 hup
         rwa [List.drop_zero] at this
        have HD := jL hD
        clear hD hU0
        by_cases h46 : U[0] = 46
        ·have hq : ((U[0].toNat : Int) == 46) = true := by rw [h46]; rfl
         have hdot := znm (G := G) (gap := gap) HK.out (by rw [HD.out, h46])
         rw [HSP.out] at hdot
         have c2 := zru T W3 HT.out (zw7 hp hb3).1
         cases hpl : zqo (ls T) with
         | none =>
           rw [hpl] at hdot c2
           simp only at hdot
           rw [show aV (none : Option Nat) = 0 from rfl, show aK (none : Option Nat) = false from rfl] at c2
           have HRS := jL hdot
           clear hdot hpl h46
           go_wp2_with fail
           refine c2.mono ?_
           rintro e W4 ⟨rfl, hb4'⟩
           have hb4 := hb3.trans (hb4'.mono hb3.size)
           have hR4 : zaj W4 gr (znt 8) := Row.below hR3 hb4' hR3.lt
           go_wp2_with (refine za0 _ rfl rfl _ _ _ rfl gr (by exact rfl) (av (znt 8)) (by exact rfl) _ _ hR4 (zah _ rfl) rfl (zac _) ?_; intro W9 hR9 hG9)
           rw [Exit.noGoto_ret]
           (try simp only [Exit.inBlock, Exit.then])
           refine zak _ _ rfl gr rfl (znt 8) hR9 rfl _ rfl rfl ?_
           exact ⟨by rw [HRS.out]; rfl, zau hb4 hG9 jH hgr⟩
         | some u =>
           rw [hpl] at hdot c2
           simp only at hdot
           rw [show aV (some u) = (u : Int) from rfl, show aK (some u) = true from rfl] at c2
           have hub := (zrd hpl).1
           have HDOT := jL hdot
           clear hdot hpl h46
           by_cases h7 : n = 7
           ·have HRS : Hid (R = none) := by
             show _ = _
             rw [HDOT.out]
             exact znb _ _ (by rw [List.length_append, <- HN.out, h7]; exact Nat.le_refl 9)
            have hc8 : ((n : Int) + 1 == 8) = true := by rw [h7]; rfl
            have HH7 := jL h7
            clear h7
            go_wp2_with fail
            refine c2.mono ?_
            rintro e W4 ⟨rfl, hb4'⟩
            have hb4 := hb3.trans (hb4'.mono hb3.size)
            have hR4 : zaj W4 gr (znt 8) := Row.below hR3 hb4' hR3.lt
            go_wp2_with (refine za0 _ rfl rfl _ _ _ rfl gr (by exact rfl) (av (znt 8)) (by exact rfl) _ _ hR4 (zah _ rfl) rfl (zac _) ?_; intro W9 hR9 hG9)
            rw [Exit.noGoto_ret]
            (try simp only [Exit.inBlock, Exit.then])
            refine zak _ _ rfl gr rfl (znt 8) hR9 rfl _ rfl rfl ?_
            exact ⟨by rw [HRS.out]; rfl, zau hb4 hG9 jH hgr⟩
           ·have hc8 : ((n : Int) + 1 == 8) = false := by rw [beq_eq_false_iff_ne]; omega
            have hn6 : n < 7 := by omega
            obtain ⟨x, hx⟩ : ∃ x, x = u / 65536 := ⟨_, rfl⟩
            obtain ⟨y, hy⟩ : ∃ y, y = u % 65536 := ⟨_, rfl⟩
            have hx1 : (u : Int) / 65536 = (x : Int) := by omega
            have hx2 : IntKind.u16.wrap (x : Int) = (x : Int) := by rw [IntKind.wrap_u16]; omega
            have hy2 : IntKind.u16.wrap (u : Int) = (y : Int) := by rw [IntKind.wrap_u16]; omega
            rw [<- hx, <- hy] at HDOT
            have hs1 := zmp G (by rw [<- HN.out]; exact hn6) v x y
            rw [<- HN.out] at hs1
            have hC1 : n < (av ((G ++ [v]) ++ znt (8 - (G ++ [v]).length))).size := by rw [zaa, zmo (G ++ [v]) HGL2.out]; omega
            have hC2 : n + 1 < (av (((G ++ [v]) ++ znt (8 - (G ++ [v]).length)).set n x)).size := by rw [zaa, List.length_set, zmo (G ++ [v]) HGL2.out]; omega
            have HS1 := jL hs1
            have HL3 : Hid ((G ++ [x, y]).length = n + 2) := by show _ = _; rw [List.length_append, <- HN.out]; rfl
            have hn0 : (0 : Int) <= (n : Int) := by omega
            clear h7 hx hy hs1
            go_wp2_with fail
            refine c2.mono ?_
            rintro e W4 ⟨rfl, hb4'⟩
            have hb4 := hb3.trans (hb4'.mono hb3.size)
            have hA4 : Row W4 ga 24 (av ((G ++ [v]) ++ znt (8 - (G ++ [v]).length))) := Row.below hA3 hb4' hA3.lt
            have hR4 : zaj W4 gr (znt 8) := Row.below hR3 hb4' hR3.lt
            go_wp2_with (first
             | (refine za1 _ rfl rfl _ _ _ rfl ga n (by exact rfl) (.int .u16 (x : Int)) (by exact rfl) (by exact rfl) _ _ hA4 hC1 zka ?_; intro W5 hr5 hg5; rw [zab] at hr5)
             | (refine za1 _ rfl rfl _ _ _ rfl ga (n + 1) (by exact rfl) (.int .u16 (y : Int)) (by exact rfl) (by exact rfl) _ _ hr5 hC2 zka ?_; intro W6 hr6 hg6; rw [zab, HS1.out] at hr6))
            go_meet
            exact ⟨G ++ [x, y], gap, by rw [HL3.out]; first | rfl | go_num, by rw [HGV.out], jL (by rw [HL3.out]; omega), jL (fun m hm => by have := HGM2.out m hm; rw [HL2.out] at this; rw [HL3.out]; omega), jL HDOT.out.symm, hr6, Row.grown (Row.grown hR4 hg5 (fun e => hne e.symm)) hg6 (fun e => hne e.symm), zau (zau hb4 hg5 jH hwa) hg6 jH hwa⟩
        ·have hq : ((U[0].toNat : Int) == 46) = false := zrp h46
         have H46 := jL h46
         clear h46
         by_cases h58 : U[0] = 58
         ·have hq5 : ((U[0].toNat : Int) == 58) = true := by rw [h58]; rfl
          rw [h58] at HD
          have HD58 := jL HD.out
          clear HD h58
          obtain ⟨r, hr⟩ : ∃ r, r = (ls U).drop 1 := ⟨_, rfl⟩
          have h1r : ls (U.extract 1 U.size) = r := by
           rw [zb9, List.take_of_length_le (by rw [List.length_drop, zb4]; exact jH), hr]
          rw [<- hr] at HD58
          have HR1 := jL h1r
          have HRU := jL hr
          have h1i : (1 : Int) <= (U.size : Int) := by omega
          have h1n : 1 <= U.size := hup
          have HQ1 : Hid ((U.extract 1 U.size).size < T.size) := by
           show _ < _
           rw [<- zb4, HR1.out, HRU.out, List.length_drop, zb4]
           have := HUS.out
           have := HK0.out
           omega
          have HB1 : Hid ((U.extract 1 U.size).size <= 1000000000) := by
           show _ <= _
           have := HQ1.out
           have := HT.out
           omega
          clear hr h1r
          cases gap with
          | some m =>
            have hgvm : (gv == -1) = false := by rw [HGV.out, zmh, beq_eq_false_iff_ne]; omega
            have HSP2 : Hid (sp6 (ls (U.extract 1 U.size)) (G ++ [v]) (some m) = R) := by
             show _ = _
             rw [HR1.out, HV.out, <- zno HK.out HK0.out HD58.out (fun e => by cases e) HGM.out, HSP.out]
            go_wp2_with fail
            go_roundg ((U.extract 1 U.size).size)
            case rel => exact ⟨U.extract 1 U.size, G ++ [v], some m, rfl, HCNT.out, by rw [HGV.out], rfl, HB1, HGL2, HGM2, HSP2, hA3, hR3, hb3⟩
            case measure => rw [HQ.out]; exact HQ1.out
          | none =>
            have hgvm : (gv == -1) = true := by rw [HGV.out, zmg]; rfl
            have c3 := fun W => Any.strings_HasPrefix Tryz.lays99 U ⟨#[58, 58]⟩ W
            rw [show (⟨#[58, 58]⟩ : ByteArray).data.toList = [58, 58] from rfl] at c3
            change ∀ W, Calls _ _ _ W fun e w' => e = .returned (.bool (Lib.hasPrefix (ls U) [58, 58])) /\ w' = W at c3
            by_cases hpx : (ls U).take 2 = [58, 58]
            ·rw [zmj, jT hpx] at c3
             have hu2 : 2 <= U.size := by
              have := congrArg List.length hpx
              rw [List.length_take, zb4] at this
              simp at this
              omega
             have hu2i : (2 : Int) <= (U.size : Int) := by omega
             have h2r : ls (U.extract 2 U.size) = (ls U).drop 2 := by
              rw [zb9, List.take_of_length_le (by rw [List.length_drop, zb4]; exact jH)]
             have hTT : (ls T).drop k = 58 :: 58 :: (ls U).drop 2 := by
              rw [<- HLU.out]
              have := List.take_append_drop 2 (ls U)
              rw [hpx] at this
              exact this.symm
             have HSP2 : Hid (sp6 (ls (U.extract 2 U.size)) (G ++ [v]) (some (n + 1)) = R) := by
              show _ = _
              rw [h2r, HV.out, HN.out, <- znn HK.out HK0.out hTT, HSP.out]
             have HQ2 : Hid ((U.extract 2 U.size).size < T.size) := by
              show _ < _
              rw [<- zb4, h2r, List.length_drop, zb4]
              have := HUS.out
              have := HK0.out
              omega
             have HB2 : Hid ((U.extract 2 U.size).size <= 1000000000) := by
              show _ <= _
              have := HQ2.out
              have := HT.out
              omega
             clear hpx h2r hTT
             go_wp2_with fail
             refine (c3 _).mono ?_
             rintro e w' ⟨rfl, rfl⟩
             go_wp2_with fail
             go_roundg ((U.extract 2 U.size).size)
             case rel => exact ⟨U.extract 2 U.size, G ++ [v], some (n + 1), rfl, HCNT.out, by rw [zmh]; first | rfl | go_num, rfl, HB2, HGL2, jL (fun m hm => by injection hm with hm; rw [HL2.out]; omega), HSP2, hA3, hR3, hb3⟩
             case measure => rw [HQ.out]; exact HQ2.out
            ·rw [zmj, jF hpx] at c3
             have HSP2 : Hid (sp6 (ls (U.extract 1 U.size)) (G ++ [v]) none = R) := by
              show _ = _
              rw [HR1.out, HV.out, <- zno HK.out HK0.out HD58.out (fun _ e => hpx ?_) HGM.out, HSP.out]
              rw [HLU.out, HD58.out]
              cases r with
              | nil => cases e
              | cons c t =>
                have : c = 58 := by simpa using e
                rw [this]; rfl
             clear hpx
             go_wp2_with fail
             refine (c3 _).mono ?_
             rintro e w' ⟨rfl, rfl⟩
             go_wp2_with fail
             go_roundg ((U.extract 1 U.size).size)
             case rel => exact ⟨U.extract 1 U.size, G ++ [v], none, rfl, HCNT.out, by rw [HGV.out], rfl, HB1, HGL2, HGM2, HSP2, hA3, hR3, hb3⟩
             case measure => rw [HQ.out]; exact HQ1.out
         ·have hq5 : ((U[0].toNat : Int) == 58) = false := zrp h58
          have HRS : Hid (R = none) := by
           show _ = _
           rw [<- HSP.out]
           exact znk (fun e => hTne.out e.1) HK.out (.inr ⟨U[0], _, HD.out, h58, H46.out⟩)
          have H58 := jL h58
          clear h58
          cases gap with
          | some m =>
            have hgvm : (gv == -1) = false := by rw [HGV.out, zmh, beq_eq_false_iff_ne]; omega
            go_wp2_with (refine za0 _ rfl rfl _ _ _ rfl gr (by exact rfl) (av (znt 8)) (by exact rfl) _ _ hR3 (zah _ rfl) rfl (zac _) ?_; intro W9 hR9 hG9)
            rw [Exit.noGoto_ret]
            (try simp only [Exit.inBlock, Exit.then])
            refine zak _ _ rfl gr rfl (znt 8) hR9 rfl _ rfl rfl ?_
            exact ⟨by rw [HRS.out]; rfl, zau hb3 hG9 jH hgr⟩
          | none =>
            have hgvm : (gv == -1) = true := by rw [HGV.out, zmg]; rfl
            have c3 := fun W => Any.strings_HasPrefix Tryz.lays99 U ⟨#[58, 58]⟩ W
            rw [show (⟨#[58, 58]⟩ : ByteArray).data.toList = [58, 58] from rfl] at c3
            change ∀ W, Calls _ _ _ W fun e w' => e = .returned (.bool (Lib.hasPrefix (ls U) [58, 58])) /\ w' = W at c3
            have hpx : ¬ (ls U).take 2 = [58, 58] := by
             rw [HLU.out, HD.out]
             intro e
             rw [List.take_succ_cons] at e
             injection e with e
             exact H58.out e
            rw [zmj, jF hpx] at c3
            clear hpx
            go_wp2_with fail
            refine (c3 _).mono ?_
            rintro e w' ⟨rfl, rfl⟩
            go_wp2_with (refine za0 _ rfl rfl _ _ _ rfl gr (by exact rfl) (av (znt 8)) (by exact rfl) _ _ hR3 (zah _ rfl) rfl (zac _) ?_; intro W9 hR9 hG9)
            rw [Exit.noGoto_ret]
            (try simp only [Exit.inBlock, Exit.then])
            refine zak _ _ rfl gr rfl (znt 8) hR9 rfl _ rfl rfl ?_
            exact ⟨by rw [HRS.out]; rfl, zau hb3 hG9 jH hgr⟩
  case rest =>
   obtain ⟨G, gap, rfl, rfl, HGL, HGM, HR, hr2, hr, hb⟩ := hcut
   have hgl8 := zmo G HGL.out
   obtain ⟨n, hn⟩ : ∃ n : Nat, n = G.length := ⟨_, rfl⟩
   have hn8 : n <= 8 := by rw [hn]; exact HGL.out
   have HN := jL hn
   rw [<- hn] at hr2 hgl8 ⊢
   clear hn HST HG1 hgx hA2 hR2 hb2 hla HT0
   cases gap with
   | none =>
     by_cases h8 : n = 8
     ·have HRS : Hid (R = some (G ++ znt (8 - n))) := by show _ = _; rw [<- HR.out, zna, if_pos (by rw [<- HN.out]; exact h8), h8]; simp [znt]
      have hd : ((n : Int) == 8) = true := by rw [h8]; rfl
      obtain ⟨F, hF⟩ : ∃ F, F = G ++ znt (8 - n) := ⟨_, rfl⟩
      rw [<- hF] at hr2 hgl8 HRS
      clear h8 hF HR HGM HN HGL hn8
      go_wp2_with (first
       | (refine zaz _ rfl _ _ rfl ga (by exact rfl) _ (av F) hr2 8 _ zae (zah F hgl8) ?_)
       | (refine za0 _ rfl rfl _ _ _ rfl gr (by exact rfl) (av F) (by exact rfl) _ _ hr (zah F hgl8) (by rw [zaa, zaa, hgl8]; rfl) (zac F) ?_; intro W9 hR9 hG9))
      rw [Exit.noGoto_ret]
      refine zak _ _ rfl gr rfl F hR9 hgl8 _ rfl rfl ?_
      exact ⟨by rw [HRS.out]; rfl, zau hb hG9 jH hgr⟩
     ·have HRS : Hid (R = none) := by show _ = _; rw [<- HR.out, zna, if_neg (by rw [<- HN.out]; exact h8)]
      have hd : ((n : Int) == 8) = false := by rw [beq_eq_false_iff_ne]; omega
      clear h8 HR HGM HN HGL
      go_wp2_with (refine za0 _ rfl rfl _ _ _ rfl gr (by exact rfl) (av (znt 8)) (by exact rfl) _ _ hr (zah _ rfl) rfl (zac _) ?_; intro W9 hR9 hG9)
      rw [Exit.noGoto_ret]
      refine zak _ _ rfl gr rfl (znt 8) hR9 rfl _ rfl rfl ?_
      exact ⟨by rw [HRS.out]; rfl, zau hb hG9 jH hgr⟩
   | some m =>
     have hm : m <= n := by rw [HN.out]; exact HGM.out m rfl
     have hd1 : ((m : Int) == -1) = false := by rw [beq_eq_false_iff_ne]; omega
     have hd2 : ((m : Int) != -1) = true := by rw [bne, hd1]; rfl
     by_cases h8 : n < 8
     ·have hd3 : decide ((n : Int) < 8) = true := jT (by omega)
      obtain ⟨F, hF⟩ : ∃ F, F = G ++ znt (8 - n) := ⟨_, rfl⟩
      have hFn : F.take n = G := by rw [hF, List.take_left' (by rw [HN.out])]
      have hFm : F.take m = G.take m := by rw [<- hFn, List.take_take, Nat.min_eq_left hm]
      have HRS : Hid (R = some (F.take m ++ (znt (8 - n) ++ (F.take n).drop m))) := by
       show _ = _
       rw [<- HR.out, zm9, if_pos (by rw [<- HN.out]; omega), <- HN.out, hFn, hFm]
      have hEl : (F.take m ++ (znt (8 - n) ++ (F.take n).drop m)).length = 8 := by
       rw [hFn, hFm, List.length_append, List.length_append, List.length_take, List.length_drop, <- HN.out]
       unfold znt
       rw [List.length_replicate]
       omega
      rw [<- hF] at hr2 hgl8
      have c1 := fun W => zmf F hgl8 n m hm hn8 W
      obtain ⟨E, hE⟩ : ∃ E, E = F.take m ++ (znt (8 - n) ++ (F.take n).drop m) := ⟨_, rfl⟩
      rw [<- hE] at HRS hEl
      simp only [<- hE] at c1
      clear h8 hF HR HGM HN HGL hn8 hFn hFm hE hm
      go_wp2_with (first
       | (refine zaz _ rfl _ _ rfl ga (by exact rfl) _ (av F) hr2 8 _ zae (zah F hgl8) ?_)
       | (go_at_call 176; refine (c1 _).mono ?_; rintro e W8 ⟨rfl, hb8⟩; have hr8 : zaj W8 gr (znt 8) := Row.below hr hb8 hr.lt; have hb9 := hb.trans (hb8.mono hb.size))
       | (refine za0 _ rfl rfl _ _ _ rfl gr (by exact rfl) (av E) (by exact rfl) _ _ hr8 (zah E hEl) (by rw [zaa, zaa, hEl]; rfl) (zac E) ?_; intro W9 hR9 hG9))
      rw [Exit.noGoto_ret]
      refine zak _ _ rfl gr rfl E hR9 hEl _ rfl rfl ?_
      exact ⟨by rw [HRS.out]; rfl, zau hb9 hG9 jH hgr⟩
     ·have HRS : Hid (R = none) := by show _ = _; rw [<- HR.out, zm9, if_neg (by rw [<- HN.out]; omega)]
      have hd3 : decide ((n : Int) < 8) = false := jF (by omega)
      clear h8 HR HGM HN HGL
      go_wp2_with (refine za0 _ rfl rfl _ _ _ rfl gr (by exact rfl) (av (znt 8)) (by exact rfl) _ _ hr (zah _ rfl) rfl (zac _) ?_; intro W9 hR9 hG9)
      rw [Exit.noGoto_ret]
      refine zak _ _ rfl gr rfl (znt 8) hR9 rfl _ rfl rfl ?_
      exact ⟨by rw [HRS.out]; rfl, zau hb hG9 jH hgr⟩
end

section
open Go.RowKit
set_option maxHeartbeats 16000000
theorem zk9 : Tryz.prog.underlying 142 = some (.array 65 5) := by kernel_rfl
theorem zla : (Tryz.prog.info? 142).map (fun i => (i.zero, i.size)) = some (some (.agg (zcg 65)), 65) := by kernel_rfl
theorem zlb : (Tryz.prog.info? 5).map (·.size) = some 1 := by kernel_rfl
theorem zlc : ∀ w, (zeroValue 142).run Tryz.prog w = .ok (.agg (zcg 65)) w := by
 intro w
 cases hi : Tryz.prog.info? 142 with
 | none => have := zla; rw [hi] at this; cases this
 | some i =>
   have := zla
   rw [hi] at this
   simp only [Option.map_some, Option.some.injEq, Prod.mk.injEq] at this
   simp [zeroValue, typeInfo, hi, this.1]
def zld (L : List UInt8) : Array Value := (List.replicate (65 - L.length) (Value.int .u8 0) ++ L.map bv).toArray
theorem zle : zld [] = zcg 65 := by
 unfold zld zcg
 rw [List.map_nil, List.append_nil, List.length_nil, List.toArray_replicate]
theorem zlf (L : List UInt8) (h : L.length <= 65) : (zld L).size = 65 := by simp [zld]; omega
theorem zlg (L : List UInt8) (j : Nat) (h : j + 1 + L.length = 65) (c : UInt8) : (zld L).setIfInBounds j (bv c) = zld (c :: L) := by
 simp only [zld, List.setIfInBounds_toArray]
 congr 1
 rw [List.set_append_left _ _ (by simp; omega)]
 have e : 65 - L.length = j + 1 := by omega
 have e2 : 65 - (c :: L).length = j := by simp; omega
 rw [e, e2, List.replicate_succ', List.set_append_right _ _ (by simp)]
 simp
theorem zlh (L : List UInt8) (j k : Nat) (h : j + L.length = 65) (hk : k < L.length) : (zld L)[j + k]? = some (bv (L.getD k 0)) := by
 simp only [zld, List.getElem?_toArray]
 rw [List.getElem?_append_right (by simp; omega)]
 simp only [List.length_replicate, List.getElem?_map]
 rw [show j + k - (65 - L.length) = k by omega, List.getElem?_eq_getElem hk, List.getD_eq_getElem?_getD, List.getElem?_eq_getElem hk]
 rfl
theorem zli {w : World} {g : Nat} {L : List UInt8} (h : Row w g 142 (zld L)) (j : Nat) (hj : j + L.length = 65) : Has w w.heap.size (some ⟨g, j, none⟩) L.length (L.map bv) := by
 refine ⟨by simp, fun _ => ⟨g, j, rfl, h.lt, fun k hk => ?_⟩⟩
 have hk' : k < L.length := by simpa using hk
 rw [cell_of_row w g (j + k) _ _ (0, 0) h, zlh L j k hj hk', List.getElem_map, List.getD_eq_getElem?_getD, List.getElem?_eq_getElem hk']
 rfl
theorem zlj : ∀ r : Fin 16, ((⟨#[48, 49, 50, 51, 52, 53, 54, 55, 56, 57, 97, 98, 99, 100, 101, 102, 103, 104, 105, 106, 107, 108, 109, 110, 111, 112, 113, 114, 115, 116, 117, 118, 119, 120, 121, 122]⟩ : ByteArray)[r.val]?) = some (zda r.val) := by decide +kernel
theorem zlk (w : World) {ops : Array Oper} {rest : List Oper} {o : Oper} {a : Act} {Q : Exit -> Act -> World -> Prop} (hg : o.guard = none) (x y : Operand) (hop : o.op = .index 9 x y)
 (hx : a.eval x = .string ⟨#[48, 49, 50, 51, 52, 53, 54, 55, 56, 57, 97, 98, 99, 100, 101, 102, 103, 104, 105, 106, 107, 108, 109, 110, 111, 112, 113, 114, 115, 116, 117, 118, 119, 120, 121, 122]⟩) (z : Int) (hy : a.eval y = .int .u64 z)
 (r : Nat) (hr : r < 16) (hz : z = (r : Int)) (h : wpList Tryz.prog ops Q rest (a.put o.dst (bv (zda r))) w) : wpList Tryz.prog ops Q (o :: rest) a w := by
 refine wpList_plain hg fun K hK => ?_
 subst hz
 have e := zlj ⟨r, hr⟩
 simp only at e
 have e2 : Value.int .u8 ((zda r).toNat : Int) = bv (zda r) := rfl
 unfold Oper.wp
 simp [execOp, hop, hx, hy, Instr.index, run_underlying z33, asIntOf, e, e2, Result.andThen]
 exact hK _ _ h
theorem zll (w : World) : Calls Tryz.prog 167 #[.int .i64 16] w fun e w' => e = .returned (.bool true) /\ w = w' := by
 have h1 : bits .and .i64 16 15 = 0 := by decide +kernel
 go_enter Tryz.func167, Tryz.ntmps167
 go_wp2
 go_ret
 exact ⟨rfl, rfl⟩
theorem zlm (w : World) (hp : zw5 w) : Calls Tryz.prog 199 #[.int .u64 16] w fun e w' => e = .returned (.int .i64 4) /\ w = w' := by
 have key : IntKind.u64.wrap (bits .and .u64 16 (IntKind.u64.wrap (-16)) * 285870213051353865) / 288230376151711744 = 15 := by decide +kernel
 have h2 := hp.2
 go_enter Tryz.func199, Tryz.ntmps199
 go_wp2_with (simp only [key])
 go_ret
 exact ⟨rfl, rfl⟩
theorem zln (w : World) (hp : zw5 w) : Calls Tryz.prog 168 #[.int .u64 16] w fun e w' => e = .returned (.int .i64 4) /\ w = w' := by
 have c1 := zlm w hp
 go_enter Tryz.func168, Tryz.ntmps168
 go_wp2_with fail
 refine c1.mono ?_
 rintro e w' ⟨rfl, rfl⟩
 go_wp2
 go_ret
 exact ⟨rfl, rfl⟩
set_option maxRecDepth 20000 in
theorem zlo (B n u : Nat) (hu : u < 65536) (sv : Value) (l : List UInt8) (w : World) (hp : zw5 w) (hown : w.ownsRow B 5 1 sv n (l.map bv)) (hB : B <= w.heap.size) (hn : n <= 1000000000) :
 Calls Tryz.prog 131 #[sv, .int .u64 u, .int .i64 16, .bool false, .bool true] w fun e w' => ∃ v', e = .returned (.tuple #[v', .string ⟨#[]⟩]) /\ w'.ownsRow B 5 1 v' (n + (znv u).length) ((l ++ znv u).map bv) /\ Below B w w' := by
 obtain ⟨i5, hi5, hz0, hz1, hz2⟩ := info_parts z34
 obtain ⟨hl1, hl4⟩ := zol u hu
 obtain ⟨T, hT⟩ : ∃ T, T = znv u := ⟨_, rfl⟩
 rw [<- hT] at hl1 hl4 ⊢
 have HT : Hid (zde 16 u ++ [] = T) := by show _ = _; rw [List.append_nil, hT]; rfl
 clear hT
 go_enter Tryz.func131, Tryz.ntmps131
 go_wp2_with (refine zay _ rfl 12 rfl _ rfl _ zlc ?_; intro W1 g hg hl hR hG)
 have hb1 : Below B w W1 := zav (Below.refl B w) hG hB
 have hb1' : Below w.heap.size w W1 := zav (Below.refl w.heap.size w) hG jH
 have hp1 := zw7 hp hb1'
 have hown1 := zaq hown hb1'
 have hBg : B <= g := by omega
 have hR1 : Row W1 g 142 (zld []) := by rw [zle]; exact hR
 have HBW := jL hb1.size
 have hb1w : Below w.heap.size w W1 := hb1'
 clear hR hG hb1' hown1 hb1
 refine (zll _).mono ?_
 rintro e w' ⟨rfl, rfl⟩
 go_wp2_with fail
 refine (zln _ hp1).mono ?_
 rintro e w' ⟨rfl, rfl⟩
 go_wp2
 go_loopw [1, 13] (fun m i wr => ∃ (M k : Nat) (L : List UInt8), m = .int .u64 M /\ i = .int .i64 ((k : Int) + 1) /\ Hid (k + 1 + L.length = 65) /\ Hid (M < 65536) /\ Hid (zde 16 M ++ L = T) /\ Row wr g 142 (zld L) /\ Below w.heap.size w wr) (fun m _ _ => (intOf m).toNat)
 case atStart => exact ⟨u, 64, [], rfl, rfl, jL rfl, jL hu, HT, hR1, hb1w⟩
 case round =>
  obtain ⟨M, k, L, rfl, rfl, HK, HM, HD, hrow, hb⟩ := hrel
  have hks : k < (zld L).size := by have := HK.out; rw [zlf L (by omega)]; omega
  have hk65 : k < 65 := by have := HK.out; omega
  have hL4 : L.length <= 4 := by
   have := congrArg List.length HD.out
   rw [List.length_append] at this
   omega
  by_cases hM : M < 16
  ·have hd : decide ((M : Int) >= 16) = false := jF (by omega)
   have HT2 : Hid (zda M :: L = T) := by show _ = _; rw [<- HD.out, zdg hM]; rfl
   have hsl := fun W => z2s (P := Tryz.prog) 142 5 65 g k 65 zk9 zlb (some (.int .i64 (k : Int))) none (.inl rfl) (.inr ⟨rfl, rfl⟩) (by omega) jH W
   rw [if_neg (by omega), show 65 - k = T.length by rw [<- HT2.out]; have := HK.out; simp only [List.length_cons]; omega] at hsl
   go_wp2_with (first
    | (refine zlk _ rfl _ _ rfl (by exact rfl) _ (by exact rfl) M hM rfl ?_)
    | (refine za1 _ rfl rfl _ _ _ rfl g k (by exact rfl) (bv (zda M)) (by exact rfl) (by exact rfl) _ (zld L) hrow hks zlb ?_; intro w4 hr4 hg4; rw [zlg L k HK.out] at hr4; have hb4 := zau hb hg4 jH hg; have hown4 := zaq hown hb4; have hh := zli hr4 k (by have := HK.out; simp only [List.length_cons]; omega); rw [HT2.out] at hh)
    | (at_builtin; refine zao (w0 := w) _ rfl _ _ 72 rfl B 5 i5 (.int .u8 0) 1 z31 hi5 hz0 hz1 hz2 rfl sv n _ (by exact rfl) hown4 _ _ _ _ _ (by exact rfl) (fun e => by cases e) hh (zas T) (by unfold maxLen; omega) (by omega) (hb4.mono hB) hB ?_; intro v5 w5 hown5 hb5 hg5))
   rw [<- List.map_append] at hown5
   go_ret2
   exact ⟨v5, rfl, hown5, hb5⟩
  ·have hd : decide ((M : Int) >= 16) = true := jT (by omega)
   obtain ⟨r, hr⟩ : ∃ r, r = M % 16 := ⟨_, rfl⟩
   obtain ⟨q, hq⟩ : ∃ q, q = M / 16 := ⟨_, rfl⟩
   have hr16 : r < 16 := by omega
   have hand : bits .and .u64 (M : Int) 15 = (r : Int) := by
    have := u64_and_nat M 15 (by have := HM.out; omega) (by omega)
    rw [show ((15 : Nat) : Int) = 15 from rfl] at this
    rw [this, hr, show 15 = 2 ^ 4 - 1 from rfl, Nat.and_two_pow_sub_one_eq_mod]
   have hsh : (M : Int) / 16 = (q : Int) := by omega
   have HD2 : Hid (zde 16 q ++ (zda r :: L) = T) := by
    show _ = _
    rw [<- HD.out, zdh (by decide) (by have := HM.out; omega) hM, hr, hq, List.append_assoc]
    rfl
   have HQ : Hid (q < 65536) := by show _ < _; have := HM.out; omega
   have HQM : Hid (q < M) := by show _ < _; omega
   clear hr hq
   go_wp2_with (first
    | (refine zlk _ rfl _ _ rfl (by exact rfl) _ (by exact rfl) r hr16 (by first | exact rfl | exact hand) ?_)
    | (refine za1 _ rfl rfl _ _ _ rfl g k (by exact rfl) (bv (zda r)) (by exact rfl) (by exact rfl) _ (zld L) hrow hks zlb ?_; intro w4 hr4 hg4))
   rw [zlg L k HK.out] at hr4
   obtain ⟨k', rfl⟩ : ∃ k', k = k' + 1 := ⟨k - 1, by have := HK.out; omega⟩
   go_roundw
   case rel => exact ⟨q, k', zda r :: L, by first | rfl | go_num, by first | rfl | go_num, jL (by have := HK.out; simp only [List.length_cons]; omega), HQ, HD2, hr4, zau hb hg4 jH hg⟩
   case measure => simp [intOf]; exact HQM.out
end

end Go.Proofs.YtekaljeicfjkjaaGreatDoor
