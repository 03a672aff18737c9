/-
Contract of Parse of package ipv6.
-/
import Derived.Test.YtdfacgncphmcoaaGreatDoorC30
import Derived.Test.YtdfacgncphmcoaaGreatDoorC07
import Derived.Test.YtdfacgncphmcoaaGreatDoorC29
import Derived.Shelf.Small.Wraps
import Derived.Deep.CutRange
import Derived.Deep.CutBlock
namespace Go.Proofs.YtdfacgncphmcoaaGreatDoor
section
open Go.RowKit
/-- The place of the gap, as the program says it. -/
def gvI : Option Nat → Int
  | none => -1
  | some m => (m : Int)
theorem gvI_none : gvI none = -1 := rfl
theorem gvI_some (m : Nat) : gvI (some m) = (m : Int) := rfl
theorem build_a8 : ∀ W, (Instr.build 25 #[]).run Tryz.prog W = .ok (.agg (av (zerosN 8))) W := by
  intro W
  obtain ⟨q, hq, hq1⟩ : ∃ q, Tryz.prog.info? 24 = some q ∧ q.size = 1 := by
    cases hq : Tryz.prog.info? 24 with
    | none => have := sizeU16; rw [hq] at this; cases this
    | some q => have := sizeU16; rw [hq] at this; exact ⟨q, rfl, by simpa using this⟩
  simp [Instr.build, run_underlying tyA8, sizeOf, typeInfo, hq, Instr.fill, Value.cells, Result.andThen]
  rfl
theorem pre_two (l : List UInt8) : Lib.hasPrefix l [58, 58] = decide (l.take 2 = [58, 58]) := by
  unfold Lib.hasPrefix
  match l with
  | [] => rfl
  | [a] => simp [List.isPrefixOf]
  | a :: b :: r =>
    apply Bool.eq_iff_iff.2
    rw [List.isPrefixOf_iff_prefix, decide_eq_true_iff]
    constructor
    · rintro ⟨t, ht⟩
      injection ht with h1 ht
      injection ht with h2 ht
      rw [← h1, ← h2]; rfl
    · intro h
      simp at h
      exact ⟨r, by rw [h.1, h.2]; rfl⟩
theorem start_sp6 (l : List UInt8) : sp6 (Lib.trimPrefix l [58, 58]) [] (if Lib.hasPrefix l [58, 58] = true then some 0 else none) = parse6 l := by
  rw [sp6_start l]
  unfold Lib.trimPrefix
  rw [pre_two]
  by_cases h : l.take 2 = [58, 58]
  · rw [decide_eq_true h, if_pos rfl, if_pos rfl, if_pos h]; rfl
  · rw [decide_eq_false h, if_neg (by decide), if_neg (by decide), if_neg h]
theorem trim_le (l p : List UInt8) : (Lib.trimPrefix l p).length ≤ l.length := by
  unfold Lib.trimPrefix
  split
  · simp
  · exact Nat.le_refl _
theorem sp6_stop (G : List Nat) : sp6 [] G (some G.length) = fin6 G (some G.length) := by
  rw [sp6_some]
  unfold spB
  rw [if_pos ⟨rfl, rfl⟩]
  simp
theorem set_grp (G : List Nat) (h : G.length < 8) (v : Nat) : (G ++ zerosN (8 - G.length)).set G.length v = (G ++ [v]) ++ zerosN (8 - (G ++ [v]).length) := by
  rw [List.set_append_right _ _ (Nat.le_refl _), Nat.sub_self, List.length_append, List.append_assoc]
  obtain ⟨q, hq⟩ : ∃ q, 8 - G.length = q + 1 := ⟨8 - G.length - 1, by omega⟩
  rw [hq, show 8 - (G.length + [v].length) = q by simp; omega]
  rfl
theorem grp_len8 (G : List Nat) (h : G.length ≤ 8) : (G ++ zerosN (8 - G.length)).length = 8 := by
  rw [List.length_append]
  unfold zerosN
  rw [List.length_replicate]
  omega
theorem set_two (G : List Nat) (h : G.length < 7) (v x y : Nat) : (((G ++ [v]) ++ zerosN (8 - (G ++ [v]).length)).set G.length x).set (G.length + 1) y = (G ++ [x, y]) ++ zerosN (8 - (G ++ [x, y]).length) := by
  have h1 : ((G ++ [v]) ++ zerosN (8 - (G ++ [v]).length)).set G.length x = (G ++ [x]) ++ zerosN (8 - (G ++ [x]).length) := by
    rw [List.append_assoc, List.set_append_right _ _ (Nat.le_refl _), Nat.sub_self, List.append_assoc, List.length_append, List.length_append]
    rfl
  have h2 := set_grp (G ++ [x]) (by simp; omega) y
  rw [List.length_append, List.length_singleton] at h2
  rw [h1, List.length_append, List.length_singleton, h2, show G ++ [x] ++ [y] = G ++ [x, y] by simp]
set_option maxRecDepth 20000 in
set_option maxHeartbeats 8000000 in
theorem pPar6 : P6Par 142 := by
  intro s w hs hp
  have c0 := fun W => Any.strings_CutPrefix Tryz.lays103 s ⟨#[58, 58]⟩ W
  rw [show (⟨#[58, 58]⟩ : ByteArray).data.toList = [58, 58] from rfl] at c0
  have hst := start_sp6 (ls s)
  have hT0 : (bs (Lib.trimPrefix (ls s) [58, 58])).size ≤ 1000000000 := by
    rw [bs_size]
    have := trim_le (ls s) [58, 58]
    rw [ls_length] at this
    omega
  obtain ⟨T0, hT0e⟩ : ∃ T, T = bs (Lib.trimPrefix (ls s) [58, 58]) := ⟨_, rfl⟩
  obtain ⟨p0, hp0⟩ : ∃ p, p = Lib.hasPrefix (ls s) [58, 58] := ⟨_, rfl⟩
  obtain ⟨g0, hg0⟩ : ∃ g : Option Nat, g = if p0 = true then some 0 else none := ⟨_, rfl⟩
  rw [show Lib.trimPrefix (ls s) [58, 58] = ls T0 by rw [hT0e, ls_bs], ← hp0, ← hg0] at hst
  change ∀ W, Calls _ _ _ W fun e w' => e = .returned (.tuple #[.string (bs (Lib.trimPrefix (ls s) [58, 58])), .bool (Lib.hasPrefix (ls s) [58, 58])]) ∧ w' = W at c0
  rw [← hT0e, ← hp0] at c0
  rw [← hT0e] at hT0
  generalize parse6 (ls s) = R at *
  have HT0 := Lib.hid hT0
  have HST := Lib.hid hst
  have HF0 : Hid (p0 = false → gvI g0 = -1) := by
    show _ → _
    intro e
    rw [hg0, e]; rfl
  have HT1 : Hid (p0 = true → gvI g0 = 0) := by
    show _ → _
    intro e
    rw [hg0, e]; rfl
  have HG1 : Hid (g0 = none ∨ g0 = some 0) := by
    show _ ∨ _
    cases p0
    · left; rw [hg0]; rfl
    · right; rw [hg0]; rfl
  have hbd := build_a8
  clear hT0e hp0 hg0 hst hT0 hs
  go_enter Tryz.func142, Tryz.ntmps142
  go_wp2_with (refine wpList_alloc_arr _ rfl 2 rfl _ rfl _ zeroA8 ?_; intro W1 gr hgr hlr hR hG1; have hb1 := below_row0 (Below.refl w.heap.size w) hG1 (Nat.le_refl _))
  go_step3
  go_wp2_with (refine wpList_alloc_arr _ rfl 4 rfl _ rfl _ zeroA8 ?_; intro W2 ga hga hla hA hG2; have hR2 : RowA W2 gr (zerosN 8) := hR.grown0 hG2; have hb2 := below_row0 hb1 hG2 (Nat.le_refl _))
  have hA2 : RowA W2 ga (zerosN 8) := hA
  have hne : ga ≠ gr := by have := hR.lt; omega
  have hwa : w.heap.size ≤ ga := by have := hb1.size; omega
  clear hR hG1 hG2 hA hb1
  refine (c0 _).mono ?_
  rintro e w' ⟨rfl, hw'⟩
  subst hw'
  clear c0
  go_upto_if 19 with fail
  go_cut [6] from 19 to 19 (fun g wx => wx = w' ∧ g = .int .i64 (gvI g0))
  case first =>
    cases p0
    · go_wp2_with fail
      go_meet
      exact ⟨rfl, by rw [HF0.out (by first | rfl | trivial)]⟩
    · go_wp2_with fail
      go_meet
      exact ⟨rfl, by rw [HT1.out (by first | rfl | trivial)]⟩
  case rest =>
    obtain ⟨hwx, hgx⟩ := hcut
    subst hwx
    clear HF0 HT1
    go_wp2_with fail
    go_step3
    go_upto_block 0 with fail
    go_cut [5, 6] from 7 to 94 (fun c g wx => ∃ (G : List Nat) (gap : Option Nat), c = .int .i64 (G.length : Nat) ∧ g = .int .i64 (gvI gap) ∧ Hid (G.length ≤ 8) ∧ Hid (∀ m, gap = some m → m ≤ G.length) ∧ Hid (fin6 G gap = R) ∧ RowA wx ga (G ++ zerosN (8 - G.length)) ∧ RowA wx gr (zerosN 8) ∧ Below w.heap.size w wx)
    case first =>
      go_wp2_with fail
      go_loopg [5, 6, 7] T0.size (fun q c g t wr => ∃ (T : ByteArray) (G : List Nat) (gap : Option Nat), q = T.size ∧ c = .int .i64 (G.length : Nat) ∧ g = .int .i64 (gvI gap) ∧ t = .string T ∧ Hid (T.size ≤ 1000000000) ∧ Hid (G.length ≤ 8) ∧ Hid (∀ m, gap = some m → m ≤ G.length) ∧ Hid (sp6 (ls T) G gap = R) ∧ RowA wr ga (G ++ zerosN (8 - G.length)) ∧ RowA wr gr (zerosN 8) ∧ Below w.heap.size w wr)
      case atStart =>
        refine ⟨T0, [], g0, rfl, rfl, hgx, rfl, HT0, Lib.hid (Nat.zero_le _), ?_, HST, hA2, hR2, hb2⟩
        rcases HG1.out with e | e
        · exact Lib.hid fun m h => by rw [e] at h; cases h
        · exact Lib.hid fun m h => by rw [e] at h; injection h with h; omega
      case round =>
        clear hgx HST HG1 hA2 hR2 hb2 hla HT0
        obtain ⟨T, G, gap, hq, rfl, rfl, rfl, HT, HGL, HGM, HSP, hrA, hrR, hb⟩ := hrel
        have HQ := Lib.hid hq
        clear hq
        obtain ⟨n, hn⟩ : ∃ n : Nat, n = G.length := ⟨_, rfl⟩
        have hn8 : n ≤ 8 := by rw [hn]; exact HGL.out
        have HN := Lib.hid hn
        rw [← hn] at hrA ⊢
        obtain ⟨gv, hgv⟩ : ∃ z : Int, z = gvI gap := ⟨_, rfl⟩
        have HGV := Lib.hid hgv
        rw [← hgv]
        clear hn hgv
        by_cases hT : T.size = 0
        · have hE : (T.toList == ([] : List UInt8)) = true := by rw [empty_eq, decide_eq_true hT]
          have hE2 : T.toList.isEmpty = true := by rw [toList_ls, List.isEmpty_iff]; exact List.eq_nil_of_length_eq_zero (by rw [ls_length]; exact hT)
          have hTn : ls T = [] := List.eq_nil_of_length_eq_zero (by rw [ls_length]; exact hT)
          by_cases hgn : (n : Int) = gv
          · have heq : ((n : Int) == gv) = true := beq_iff_eq.2 hgn
            have hnq : ((n : Int) != gv) = false := by rw [bne, heq]; rfl
            have HF : Hid (fin6 G gap = R) := by
              show _ = _
              rw [← HSP.out, hTn]
              have h1 := HGV.out
              cases gap with
              | none => exfalso; rw [gvI_none] at h1; omega
              | some m =>
                rw [gvI_some] at h1
                have hmn : m = G.length := by rw [← HN.out]; omega
                rw [hmn, sp6_stop]
            clear hT hTn
            have HGN := Lib.hid hgn
            clear hgn
            go_wp2_with fail
            go_meet
            exact ⟨G, gap, by rw [HN.out], by rw [HGV.out], HGL, HGM, HF, by rw [← HN.out]; exact hrA, hrR, hb⟩
          · have heq : ((n : Int) == gv) = false := beq_eq_false_iff_ne.2 hgn
            have hnq : ((n : Int) != gv) = true := by rw [bne, heq]; rfl
            have HRS : Hid (R = none) := by
              show _ = _
              rw [← HSP.out]
              refine sp6_bad (k := 0) (fun e => hgn ?_) (by rw [hTn]; rfl) (.inl rfl)
              rw [HGV.out, e.2, HN.out]; rfl
            have c1 := fun W => lead_any T HT.out W
            rw [hTn, show hexN 4 [] = 0 from rfl] at c1
            rw [List.take_zero, show valB 16 0 [] = 0 from rfl] at c1
            simp only [show ((0 : Nat) : Int) = 0 from rfl] at c1
            clear hT hTn hgn
            go_wp2_with fail
            refine (c1 _).mono ?_
            rintro e w' ⟨rfl, rfl⟩
            go_wp2_with (refine wpList_store_arr _ rfl rfl _ _ _ rfl gr (by exact rfl) (av (zerosN 8)) (by exact rfl) _ _ hrR (sizeA _ rfl) rfl (av_one _) ?_; intro W9 hR9 hG9)
            rw [Exit.noGoto_ret]
            (try simp only [Exit.inBlock, Exit.then])
            refine ret_a8 _ _ rfl gr rfl (zerosN 8) hR9 rfl _ rfl rfl ?_
            exact ⟨by rw [HRS.out]; rfl, below_row hb hG9 (Nat.le_refl _) hgr⟩
        · have hpos : 0 < T.size := Nat.pos_of_ne_zero hT
          have hE : (T.toList == ([] : List UInt8)) = false := by rw [empty_eq, decide_eq_false hT]
          have hE2 : T.toList.isEmpty = false := by
            rw [toList_ls]
            cases h : ls T with
            | nil => exact absurd (by rw [← ls_length, h]; rfl) hT
            | cons => rfl
          have hTne : Hid (ls T ≠ []) := by
            show _ ≠ _
            intro h
            exact hT (by rw [← ls_length, h]; rfl)
          have c1 := fun W => lead_any T HT.out W
          obtain ⟨k, hk⟩ : ∃ k, hexN 4 (ls T) = k := ⟨_, rfl⟩
          rw [hk] at c1
          have hkl := hexN_le 4 (ls T)
          rw [hk, ls_length] at hkl
          obtain ⟨hk4, hks⟩ := hkl
          have hvl : valB 16 0 ((ls T).take k) < 65536 := by
            have h1 := val_lt16 (ls T) k (by rw [← hk]; exact hexN_all 4 (ls T))
            have h2 : (16 : Nat) ^ k ≤ 16 ^ 4 := Nat.pow_le_pow_right (by decide) (by omega)
            have e : (16 : Nat) ^ 4 = 65536 := by decide
            omega
          obtain ⟨v, hv⟩ : ∃ v, v = valB 16 0 ((ls T).take k) := ⟨_, rfl⟩
          rw [← hv] at c1 hvl
          have HK := Lib.hid hk
          have HV := Lib.hid hv
          clear hk hv hT
          by_cases hk0 : k = 0
          · subst hk0
            have HRS : Hid (R = none) := by
              show _ = _
              rw [← HSP.out]
              exact sp6_bad (fun e => hTne.out e.1) HK.out (.inl rfl)
            simp only [show ((0 : Nat) : Int) = 0 from rfl] at c1
            go_wp2_with fail
            refine (c1 _).mono ?_
            rintro e w' ⟨rfl, rfl⟩
            go_wp2_with (refine wpList_store_arr _ rfl rfl _ _ _ rfl gr (by exact rfl) (av (zerosN 8)) (by exact rfl) _ _ hrR (sizeA _ rfl) rfl (av_one _) ?_; intro W9 hR9 hG9)
            rw [Exit.noGoto_ret]
            (try simp only [Exit.inBlock, Exit.then])
            refine ret_a8 _ _ rfl gr rfl (zerosN 8) hR9 rfl _ rfl rfl ?_
            exact ⟨by rw [HRS.out]; rfl, below_row hb hG9 (Nat.le_refl _) hgr⟩
          · have hk1 : ((k : Int) == 0) = false := by rw [beq_eq_false_iff_ne]; omega
            have hk0' : 0 < k := Nat.pos_of_ne_zero hk0
            have HK0 := Lib.hid hk0'
            clear hk0 hk0'
            by_cases h8 : n = 8
            · subst h8
              have HRS : Hid (R = none) := by
                show _ = _
                rw [← HSP.out]
                exact sp6_full (ls T) G gap (fun e => hTne.out e.1) (by rw [← HN.out]; exact Nat.le_refl _)
              go_wp2_with fail
              refine (c1 _).mono ?_
              rintro e w' ⟨rfl, rfl⟩
              go_wp2_with (refine wpList_store_arr _ rfl rfl _ _ _ rfl gr (by exact rfl) (av (zerosN 8)) (by exact rfl) _ _ hrR (sizeA _ rfl) rfl (av_one _) ?_; intro W9 hR9 hG9)
              rw [Exit.noGoto_ret]
              (try simp only [Exit.inBlock, Exit.then])
              refine ret_a8 _ _ rfl gr rfl (zerosN 8) hR9 rfl _ rfl rfl ?_
              exact ⟨by rw [HRS.out]; rfl, below_row hb hG9 (Nat.le_refl _) hgr⟩
            · have hn7 : n < 8 := by omega
              have h81 : ((n : Int) == 8) = false := by rw [beq_eq_false_iff_ne]; omega
              clear h8 hn8
              have hkC : n < (av (G ++ zerosN (8 - n))).size := by rw [av_size, HN.out, grp_len8 G HGL.out]; have := HN.out; omega
              have hk0i : (0 : Int) ≤ (k : Int) := by omega
              have hksi : (k : Int) ≤ (T.size : Int) := by omega
              go_upto_region 14 with (first
                | (go_at_call 173; refine (c1 _).mono ?_; rintro e w' ⟨rfl, rfl⟩)
                | (refine wpList_store_cell _ rfl rfl _ _ _ rfl ga n (by exact rfl) (.int .u16 (v : Int)) (by exact rfl) (by exact rfl) _ (av (G ++ zerosN (8 - n))) hrA hkC sizeU16 ?_; intro W3 hr3 hg3))
              have hA3 : RowA W3 ga ((G ++ [v]) ++ zerosN (8 - (G ++ [v]).length)) := by
                rw [av_set, HN.out, set_grp G (by rw [← HN.out]; exact hn7) v] at hr3
                exact hr3
              have hR3 : RowA W3 gr (zerosN 8) := Row.grown hrR hg3 (fun e => hne e.symm)
              have hb3 := below_row hb hg3 (Nat.le_refl _) hwa
              clear hr3 hg3 hrA hrR hkC c1 hb
              obtain ⟨U, hU⟩ : ∃ U, U = T.extract k T.size := ⟨_, rfl⟩
              rw [← hU]
              have hlu : ls U = (ls T).drop k := by
                rw [hU, ls_extract, List.take_of_length_le (by rw [List.length_drop, ls_length]; exact Nat.le_refl _)]
              have hus : U.size = T.size - k := by rw [← ls_length, hlu, List.length_drop, ls_length]
              have HLU := Lib.hid hlu
              have HUS := Lib.hid hus
              have HGL2 : Hid ((G ++ [v]).length ≤ 8) := by show _ ≤ _; rw [List.length_append, ← HN.out]; simp; omega
              have HGM2 : Hid (∀ m, gap = some m → m ≤ (G ++ [v]).length) := by
                show ∀ m, _ → _
                intro m hm
                have := HGM.out m hm
                rw [List.length_append]; omega
              have HL2 : Hid ((G ++ [v]).length = n + 1) := by show _ = _; rw [List.length_append, ← HN.out]; rfl
              have hcnt : Value.int .i64 ((n : Int) + 1) = Value.int .i64 (((G ++ [v]).length : Nat) : Int) := by rw [HL2.out]; rfl
              have HCNT := Lib.hid hcnt
              have hUb : U.size ≤ 1000000000 := by have := HT.out; omega
              have HUB := Lib.hid hUb
              clear hlu hus hU hk0i hksi hks hcnt
              by_cases hU0 : U.size = 0
              · have hEU : (U.toList == ([] : List UInt8)) = true := by rw [empty_eq, decide_eq_true hU0]
                have hEU2 : U.toList.isEmpty = true := by rw [toList_ls, List.isEmpty_iff]; exact List.eq_nil_of_length_eq_zero (by rw [ls_length]; exact hU0)
                have HF : Hid (fin6 (G ++ [v]) gap = R) := by
                  show _ = _
                  rw [← HSP.out, sp6_end HK.out HK0.out (by rw [← HLU.out]; exact List.eq_nil_of_length_eq_zero (by rw [ls_length]; exact hU0)), HV.out]
                clear hU0
                go_wp2_with fail
                go_meet
                exact ⟨G ++ [v], gap, HCNT.out, by rw [HGV.out], HGL2, HGM2, HF, hA3, hR3, hb3⟩
              · have hup : 0 < U.size := Nat.pos_of_ne_zero hU0
                have hEU : (U.toList == ([] : List UInt8)) = false := by rw [empty_eq, decide_eq_false hU0]
                have hEU2 : U.toList.isEmpty = false := by
                  rw [toList_ls]
                  cases h : ls U with
                  | nil => exact absurd (by rw [← ls_length, h]; rfl) hU0
                  | cons => rfl
                have hD : (ls T).drop k = U[0] :: (ls U).drop 1 := by
                  rw [← HLU.out]
                  have := drop_ls_cons U 0 hup
                  rwa [List.drop_zero] at this
                have HD := Lib.hid hD
                clear hD hU0
                by_cases h46 : U[0] = 46
                · have hq : ((U[0].toNat : Int) == 46) = true := by rw [h46]; rfl
                  have hdot := sp6_dot (G := G) (gap := gap) HK.out (by rw [HD.out, h46])
                  rw [HSP.out] at hdot
                  have c2 := par_any T W3 HT.out (pow6_below hp hb3).1
                  cases hpl : parseL (ls T) with
                  | none =>
                    rw [hpl] at hdot c2
                    simp only at hdot
                    rw [show aV (none : Option Nat) = 0 from rfl, show aK (none : Option Nat) = false from rfl] at c2
                    have HRS := Lib.hid hdot
                    clear hdot hpl h46
                    go_wp2_with fail
                    refine c2.mono ?_
                    rintro e W4 ⟨rfl, hb4'⟩
                    have hb4 := hb3.trans (hb4'.mono hb3.size)
                    have hR4 : RowA W4 gr (zerosN 8) := Row.below hR3 hb4' hR3.lt
                    go_wp2_with (refine wpList_store_arr _ rfl rfl _ _ _ rfl gr (by exact rfl) (av (zerosN 8)) (by exact rfl) _ _ hR4 (sizeA _ rfl) rfl (av_one _) ?_; intro W9 hR9 hG9)
                    rw [Exit.noGoto_ret]
                    (try simp only [Exit.inBlock, Exit.then])
                    refine ret_a8 _ _ rfl gr rfl (zerosN 8) hR9 rfl _ rfl rfl ?_
                    exact ⟨by rw [HRS.out]; rfl, below_row hb4 hG9 (Nat.le_refl _) hgr⟩
                  | some u =>
                    rw [hpl] at hdot c2
                    simp only at hdot
                    rw [show aV (some u) = (u : Int) from rfl, show aK (some u) = true from rfl] at c2
                    have hub := (parseL_some hpl).1
                    have HDOT := Lib.hid hdot
                    clear hdot hpl h46
                    by_cases h7 : n = 7
                    · have HRS : Hid (R = none) := by
                        show _ = _
                        rw [HDOT.out]
                        exact fin6_long _ _ (by rw [List.length_append, ← HN.out, h7]; exact Nat.le_refl 9)
                      have hc8 : ((n : Int) + 1 == 8) = true := by rw [h7]; rfl
                      have HH7 := Lib.hid h7
                      clear h7
                      go_wp2_with fail
                      refine c2.mono ?_
                      rintro e W4 ⟨rfl, hb4'⟩
                      have hb4 := hb3.trans (hb4'.mono hb3.size)
                      have hR4 : RowA W4 gr (zerosN 8) := Row.below hR3 hb4' hR3.lt
                      go_wp2_with (refine wpList_store_arr _ rfl rfl _ _ _ rfl gr (by exact rfl) (av (zerosN 8)) (by exact rfl) _ _ hR4 (sizeA _ rfl) rfl (av_one _) ?_; intro W9 hR9 hG9)
                      rw [Exit.noGoto_ret]
                      (try simp only [Exit.inBlock, Exit.then])
                      refine ret_a8 _ _ rfl gr rfl (zerosN 8) hR9 rfl _ rfl rfl ?_
                      exact ⟨by rw [HRS.out]; rfl, below_row hb4 hG9 (Nat.le_refl _) hgr⟩
                    · have hc8 : ((n : Int) + 1 == 8) = false := by rw [beq_eq_false_iff_ne]; omega
                      have hn6 : n < 7 := by omega
                      obtain ⟨x, hx⟩ : ∃ x, x = u / 65536 := ⟨_, rfl⟩
                      obtain ⟨y, hy⟩ : ∃ y, y = u % 65536 := ⟨_, rfl⟩
                      have hx1 : (u : Int) / 65536 = (x : Int) := by omega
                      have hx2 : IntKind.u16.wrap (x : Int) = (x : Int) := by rw [IntKind.wrap_u16]; omega
                      have hy2 : IntKind.u16.wrap (u : Int) = (y : Int) := by rw [IntKind.wrap_u16]; omega
                      rw [← hx, ← hy] at HDOT
                      have hs1 := set_two G (by rw [← HN.out]; exact hn6) v x y
                      rw [← HN.out] at hs1
                      have hC1 : n < (av ((G ++ [v]) ++ zerosN (8 - (G ++ [v]).length))).size := by rw [av_size, grp_len8 (G ++ [v]) HGL2.out]; omega
                      have hC2 : n + 1 < (av (((G ++ [v]) ++ zerosN (8 - (G ++ [v]).length)).set n x)).size := by rw [av_size, List.length_set, grp_len8 (G ++ [v]) HGL2.out]; omega
                      have HS1 := Lib.hid hs1
                      have HL3 : Hid ((G ++ [x, y]).length = n + 2) := by show _ = _; rw [List.length_append, ← HN.out]; rfl
                      have hn0 : (0 : Int) ≤ (n : Int) := by omega
                      clear h7 hx hy hs1
                      go_wp2_with fail
                      refine c2.mono ?_
                      rintro e W4 ⟨rfl, hb4'⟩
                      have hb4 := hb3.trans (hb4'.mono hb3.size)
                      have hA4 : Row W4 ga 25 (av ((G ++ [v]) ++ zerosN (8 - (G ++ [v]).length))) := Row.below hA3 hb4' hA3.lt
                      have hR4 : RowA W4 gr (zerosN 8) := Row.below hR3 hb4' hR3.lt
                      go_wp2_with (first
                        | (refine wpList_store_cell _ rfl rfl _ _ _ rfl ga n (by exact rfl) (.int .u16 (x : Int)) (by exact rfl) (by exact rfl) _ _ hA4 hC1 sizeU16 ?_; intro W5 hr5 hg5; rw [av_set] at hr5)
                        | (refine wpList_store_cell _ rfl rfl _ _ _ rfl ga (n + 1) (by exact rfl) (.int .u16 (y : Int)) (by exact rfl) (by exact rfl) _ _ hr5 hC2 sizeU16 ?_; intro W6 hr6 hg6; rw [av_set, HS1.out] at hr6))
                      go_meet
                      exact ⟨G ++ [x, y], gap, by rw [HL3.out]; first | rfl | go_num, by rw [HGV.out], Lib.hid (by rw [HL3.out]; omega), Lib.hid (fun m hm => by have := HGM2.out m hm; rw [HL2.out] at this; rw [HL3.out]; omega), Lib.hid HDOT.out.symm, hr6, Row.grown (Row.grown hR4 hg5 (fun e => hne e.symm)) hg6 (fun e => hne e.symm), below_row (below_row hb4 hg5 (Nat.le_refl _) hwa) hg6 (Nat.le_refl _) hwa⟩
                · have hq : ((U[0].toNat : Int) == 46) = false := byte_ne h46
                  have H46 := Lib.hid h46
                  clear h46
                  by_cases h58 : U[0] = 58
                  · have hq5 : ((U[0].toNat : Int) == 58) = true := by rw [h58]; rfl
                    rw [h58] at HD
                    have HD58 := Lib.hid HD.out
                    clear HD h58
                    obtain ⟨r, hr⟩ : ∃ r, r = (ls U).drop 1 := ⟨_, rfl⟩
                    have h1r : ls (U.extract 1 U.size) = r := by
                      rw [ls_extract, List.take_of_length_le (by rw [List.length_drop, ls_length]; exact Nat.le_refl _), hr]
                    rw [← hr] at HD58
                    have HR1 := Lib.hid h1r
                    have HRU := Lib.hid hr
                    have h1i : (1 : Int) ≤ (U.size : Int) := by omega
                    have h1n : 1 ≤ U.size := hup
                    have HQ1 : Hid ((U.extract 1 U.size).size < T.size) := by
                      show _ < _
                      rw [← ls_length, HR1.out, HRU.out, List.length_drop, ls_length]
                      have := HUS.out
                      have := HK0.out
                      omega
                    have HB1 : Hid ((U.extract 1 U.size).size ≤ 1000000000) := by
                      show _ ≤ _
                      have := HQ1.out
                      have := HT.out
                      omega
                    clear hr h1r
                    cases gap with
                    | some m =>
                      have hgvm : (gv == -1) = false := by rw [HGV.out, gvI_some, beq_eq_false_iff_ne]; omega
                      have HSP2 : Hid (sp6 (ls (U.extract 1 U.size)) (G ++ [v]) (some m) = R) := by
                        show _ = _
                        rw [HR1.out, HV.out, ← sp6_col HK.out HK0.out HD58.out (fun e => by cases e) HGM.out, HSP.out]
                      go_wp2_with fail
                      go_roundg ((U.extract 1 U.size).size)
                      case rel => exact ⟨U.extract 1 U.size, G ++ [v], some m, rfl, HCNT.out, by rw [HGV.out], rfl, HB1, HGL2, HGM2, HSP2, hA3, hR3, hb3⟩
                      case measure => rw [HQ.out]; exact HQ1.out
                    | none =>
                      have hgvm : (gv == -1) = true := by rw [HGV.out, gvI_none]; rfl
                      have c3 := fun W => Any.strings_HasPrefix Tryz.lays99 U ⟨#[58, 58]⟩ W
                      rw [show (⟨#[58, 58]⟩ : ByteArray).data.toList = [58, 58] from rfl] at c3
                      change ∀ W, Calls _ _ _ W fun e w' => e = .returned (.bool (Lib.hasPrefix (ls U) [58, 58])) ∧ w' = W at c3
                      by_cases hpx : (ls U).take 2 = [58, 58]
                      · rw [pre_two, decide_eq_true hpx] at c3
                        have hu2 : 2 ≤ U.size := by
                          have := congrArg List.length hpx
                          rw [List.length_take, ls_length] at this
                          simp at this
                          omega
                        have hu2i : (2 : Int) ≤ (U.size : Int) := by omega
                        have h2r : ls (U.extract 2 U.size) = (ls U).drop 2 := by
                          rw [ls_extract, List.take_of_length_le (by rw [List.length_drop, ls_length]; exact Nat.le_refl _)]
                        have hTT : (ls T).drop k = 58 :: 58 :: (ls U).drop 2 := by
                          rw [← HLU.out]
                          have := List.take_append_drop 2 (ls U)
                          rw [hpx] at this
                          exact this.symm
                        have HSP2 : Hid (sp6 (ls (U.extract 2 U.size)) (G ++ [v]) (some (n + 1)) = R) := by
                          show _ = _
                          rw [h2r, HV.out, HN.out, ← sp6_gap HK.out HK0.out hTT, HSP.out]
                        have HQ2 : Hid ((U.extract 2 U.size).size < T.size) := by
                          show _ < _
                          rw [← ls_length, h2r, List.length_drop, ls_length]
                          have := HUS.out
                          have := HK0.out
                          omega
                        have HB2 : Hid ((U.extract 2 U.size).size ≤ 1000000000) := by
                          show _ ≤ _
                          have := HQ2.out
                          have := HT.out
                          omega
                        clear hpx h2r hTT
                        go_wp2_with fail
                        refine (c3 _).mono ?_
                        rintro e w' ⟨rfl, rfl⟩
                        go_wp2_with fail
                        go_roundg ((U.extract 2 U.size).size)
                        case rel => exact ⟨U.extract 2 U.size, G ++ [v], some (n + 1), rfl, HCNT.out, by rw [gvI_some]; first | rfl | go_num, rfl, HB2, HGL2, Lib.hid (fun m hm => by injection hm with hm; rw [HL2.out]; omega), HSP2, hA3, hR3, hb3⟩
                        case measure => rw [HQ.out]; exact HQ2.out
                      · rw [pre_two, decide_eq_false hpx] at c3
                        have HSP2 : Hid (sp6 (ls (U.extract 1 U.size)) (G ++ [v]) none = R) := by
                          show _ = _
                          rw [HR1.out, HV.out, ← sp6_col HK.out HK0.out HD58.out (fun _ e => hpx ?_) HGM.out, HSP.out]
                          rw [HLU.out, HD58.out]
                          cases r with
                          | nil => cases e
                          | cons c t =>
                            have : c = 58 := by simpa using e
                            rw [this]; rfl
                        clear hpx
                        go_wp2_with fail
                        refine (c3 _).mono ?_
                        rintro e w' ⟨rfl, rfl⟩
                        go_wp2_with fail
                        go_roundg ((U.extract 1 U.size).size)
                        case rel => exact ⟨U.extract 1 U.size, G ++ [v], none, rfl, HCNT.out, by rw [HGV.out], rfl, HB1, HGL2, HGM2, HSP2, hA3, hR3, hb3⟩
                        case measure => rw [HQ.out]; exact HQ1.out
                  · have hq5 : ((U[0].toNat : Int) == 58) = false := byte_ne h58
                    have HRS : Hid (R = none) := by
                      show _ = _
                      rw [← HSP.out]
                      exact sp6_bad (fun e => hTne.out e.1) HK.out (.inr ⟨U[0], _, HD.out, h58, H46.out⟩)
                    have H58 := Lib.hid h58
                    clear h58
                    cases gap with
                    | some m =>
                      have hgvm : (gv == -1) = false := by rw [HGV.out, gvI_some, beq_eq_false_iff_ne]; omega
                      go_wp2_with (refine wpList_store_arr _ rfl rfl _ _ _ rfl gr (by exact rfl) (av (zerosN 8)) (by exact rfl) _ _ hR3 (sizeA _ rfl) rfl (av_one _) ?_; intro W9 hR9 hG9)
                      rw [Exit.noGoto_ret]
                      (try simp only [Exit.inBlock, Exit.then])
                      refine ret_a8 _ _ rfl gr rfl (zerosN 8) hR9 rfl _ rfl rfl ?_
                      exact ⟨by rw [HRS.out]; rfl, below_row hb3 hG9 (Nat.le_refl _) hgr⟩
                    | none =>
                      have hgvm : (gv == -1) = true := by rw [HGV.out, gvI_none]; rfl
                      have c3 := fun W => Any.strings_HasPrefix Tryz.lays99 U ⟨#[58, 58]⟩ W
                      rw [show (⟨#[58, 58]⟩ : ByteArray).data.toList = [58, 58] from rfl] at c3
                      change ∀ W, Calls _ _ _ W fun e w' => e = .returned (.bool (Lib.hasPrefix (ls U) [58, 58])) ∧ w' = W at c3
                      have hpx : ¬ (ls U).take 2 = [58, 58] := by
                        rw [HLU.out, HD.out]
                        intro e
                        rw [List.take_succ_cons] at e
                        injection e with e
                        exact H58.out e
                      rw [pre_two, decide_eq_false hpx] at c3
                      clear hpx
                      go_wp2_with fail
                      refine (c3 _).mono ?_
                      rintro e w' ⟨rfl, rfl⟩
                      go_wp2_with (refine wpList_store_arr _ rfl rfl _ _ _ rfl gr (by exact rfl) (av (zerosN 8)) (by exact rfl) _ _ hR3 (sizeA _ rfl) rfl (av_one _) ?_; intro W9 hR9 hG9)
                      rw [Exit.noGoto_ret]
                      (try simp only [Exit.inBlock, Exit.then])
                      refine ret_a8 _ _ rfl gr rfl (zerosN 8) hR9 rfl _ rfl rfl ?_
                      exact ⟨by rw [HRS.out]; rfl, below_row hb3 hG9 (Nat.le_refl _) hgr⟩
    case rest =>
      obtain ⟨G, gap, rfl, rfl, HGL, HGM, HR, hr2, hr, hb⟩ := hcut
      have hgl8 := grp_len8 G HGL.out
      obtain ⟨n, hn⟩ : ∃ n : Nat, n = G.length := ⟨_, rfl⟩
      have hn8 : n ≤ 8 := by rw [hn]; exact HGL.out
      have HN := Lib.hid hn
      rw [← hn] at hr2 hgl8 ⊢
      clear hn HST HG1 hgx hA2 hR2 hb2 hla HT0
      cases gap with
      | none =>
        by_cases h8 : n = 8
        · have HRS : Hid (R = some (G ++ zerosN (8 - n))) := by show _ = _; rw [← HR.out, fin6_none, if_pos (by rw [← HN.out]; exact h8), h8]; simp [zerosN]
          have hd : ((n : Int) == 8) = true := by rw [h8]; rfl
          obtain ⟨F, hF⟩ : ∃ F, F = G ++ zerosN (8 - n) := ⟨_, rfl⟩
          rw [← hF] at hr2 hgl8 HRS
          clear h8 hF HR HGM HN HGL hn8
          go_wp2_with (first
            | (refine wpList_load_arr _ rfl _ _ rfl ga (by exact rfl) _ (av F) hr2 8 _ tyA8 (sizeA F hgl8) ?_)
            | (refine wpList_store_arr _ rfl rfl _ _ _ rfl gr (by exact rfl) (av F) (by exact rfl) _ _ hr (sizeA F hgl8) (by rw [av_size, av_size, hgl8]; rfl) (av_one F) ?_; intro W9 hR9 hG9))
          rw [Exit.noGoto_ret]
          refine ret_a8 _ _ rfl gr rfl F hR9 hgl8 _ rfl rfl ?_
          exact ⟨by rw [HRS.out]; rfl, below_row hb hG9 (Nat.le_refl _) hgr⟩
        · have HRS : Hid (R = none) := by show _ = _; rw [← HR.out, fin6_none, if_neg (by rw [← HN.out]; exact h8)]
          have hd : ((n : Int) == 8) = false := by rw [beq_eq_false_iff_ne]; omega
          clear h8 HR HGM HN HGL
          go_wp2_with (refine wpList_store_arr _ rfl rfl _ _ _ rfl gr (by exact rfl) (av (zerosN 8)) (by exact rfl) _ _ hr (sizeA _ rfl) rfl (av_one _) ?_; intro W9 hR9 hG9)
          rw [Exit.noGoto_ret]
          refine ret_a8 _ _ rfl gr rfl (zerosN 8) hR9 rfl _ rfl rfl ?_
          exact ⟨by rw [HRS.out]; rfl, below_row hb hG9 (Nat.le_refl _) hgr⟩
      | some m =>
        have hm : m ≤ n := by rw [HN.out]; exact HGM.out m rfl
        have hd1 : ((m : Int) == -1) = false := by rw [beq_eq_false_iff_ne]; omega
        have hd2 : ((m : Int) != -1) = true := by rw [bne, hd1]; rfl
        by_cases h8 : n < 8
        · have hd3 : decide ((n : Int) < 8) = true := decide_eq_true (by omega)
          obtain ⟨F, hF⟩ : ∃ F, F = G ++ zerosN (8 - n) := ⟨_, rfl⟩
          have hFn : F.take n = G := by rw [hF, List.take_left' (by rw [HN.out])]
          have hFm : F.take m = G.take m := by rw [← hFn, List.take_take, Nat.min_eq_left hm]
          have HRS : Hid (R = some (F.take m ++ (zerosN (8 - n) ++ (F.take n).drop m))) := by
            show _ = _
            rw [← HR.out, fin6_some, if_pos (by rw [← HN.out]; omega), ← HN.out, hFn, hFm]
          have hEl : (F.take m ++ (zerosN (8 - n) ++ (F.take n).drop m)).length = 8 := by
            rw [hFn, hFm, List.length_append, List.length_append, List.length_take, List.length_drop, ← HN.out]
            unfold zerosN
            rw [List.length_replicate]
            omega
          rw [← hF] at hr2 hgl8
          have c1 := fun W => gap_any F hgl8 n m hm hn8 W
          obtain ⟨E, hE⟩ : ∃ E, E = F.take m ++ (zerosN (8 - n) ++ (F.take n).drop m) := ⟨_, rfl⟩
          rw [← hE] at HRS hEl
          simp only [← hE] at c1
          clear h8 hF HR HGM HN HGL hn8 hFn hFm hE hm
          go_wp2_with (first
            | (refine wpList_load_arr _ rfl _ _ rfl ga (by exact rfl) _ (av F) hr2 8 _ tyA8 (sizeA F hgl8) ?_)
            | (go_at_call 175; refine (c1 _).mono ?_; rintro e W8 ⟨rfl, hb8⟩; have hr8 : RowA W8 gr (zerosN 8) := Row.below hr hb8 hr.lt; have hb9 := hb.trans (hb8.mono hb.size))
            | (refine wpList_store_arr _ rfl rfl _ _ _ rfl gr (by exact rfl) (av E) (by exact rfl) _ _ hr8 (sizeA E hEl) (by rw [av_size, av_size, hEl]; rfl) (av_one E) ?_; intro W9 hR9 hG9))
          rw [Exit.noGoto_ret]
          refine ret_a8 _ _ rfl gr rfl E hR9 hEl _ rfl rfl ?_
          exact ⟨by rw [HRS.out]; rfl, below_row hb9 hG9 (Nat.le_refl _) hgr⟩
        · have HRS : Hid (R = none) := by show _ = _; rw [← HR.out, fin6_some, if_neg (by rw [← HN.out]; omega)]
          have hd3 : decide ((n : Int) < 8) = false := decide_eq_false (by omega)
          clear h8 HR HGM HN HGL
          go_wp2_with (refine wpList_store_arr _ rfl rfl _ _ _ rfl gr (by exact rfl) (av (zerosN 8)) (by exact rfl) _ _ hr (sizeA _ rfl) rfl (av_one _) ?_; intro W9 hR9 hG9)
          rw [Exit.noGoto_ret]
          refine ret_a8 _ _ rfl gr rfl (zerosN 8) hR9 rfl _ rfl rfl ?_
          exact ⟨by rw [HRS.out]; rfl, below_row hb hG9 (Nat.le_refl _) hgr⟩
end

end Go.Proofs.YtdfacgncphmcoaaGreatDoor
