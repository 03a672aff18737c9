/-
Contract of Parse of package ipv6.
Contract of strconv.AppendUint to the base 16 for numbers of 16 bits.
Contracts of strconv.AppendUint to the base 16, and of joined of package ipv6.
The longest run of groups 0, met by trying (plain); contract of longestZeros of package ipv6.
-/
import Derived.Test.YtpccpgihldpiiaaGreatDoorD00
import Derived.Test.YtpccpgihldpiiaaGreatDoorC11
import Derived.Shelf.Small.Wraps
import Derived.Deep.CutRange
import Derived.Deep.CutBlock
import Derived.Test.YtpccpgihldpiiaaGreatDoorC04
import Derived.Test.YtpccpgihldpiiaaGreatDoorC09
import Derived.Test.YtpccpgihldpiiaaGreatDoorC07
import Derived.Test.YtpccpgihldpiiaaGreatDoorC05
import Derived.Laws.CopyRow
namespace Go.Proofs.YtpccpgihldpiiaaGreatDoor
section
open Go.RowKit

/-- The place of the gap, as the program says it. -/
def gvI : Option Nat → Int
  | none => -1
  | some m => (m : Int)
theorem gvI_none : gvI none = -1 := rfl
theorem gvI_some (m : Nat) : gvI (some m) = (m : Int) := rfl
theorem build_a8 : ∀ W, (Instr.build 25 #[]).run Tryz.prog W = .ok (.agg (av (zerosN 8))) W := by
  intro W
  obtain ⟨q, hq, hq1⟩ : ∃ q, Tryz.prog.info? 24 = some q ∧ q.size = 1 := by
    cases hq : Tryz.prog.info? 24 with
    | none => have := sizeU16; rw [hq] at this; cases this
    | some q => have := sizeU16; rw [hq] at this; exact ⟨q, rfl, by simpa using this⟩
  simp [Instr.build, run_underlying tyA8, sizeOf, typeInfo, hq, Instr.fill, Value.cells, Result.andThen]
  rfl
theorem pre_two (l : List UInt8) : Lib.hasPrefix l [58, 58] = decide (l.take 2 = [58, 58]) := by
  unfold Lib.hasPrefix
  match l with
  | [] => rfl
  | [a] => simp [List.isPrefixOf]
  | a :: b :: r =>
    apply Bool.eq_iff_iff.2
    rw [List.isPrefixOf_iff_prefix, decide_eq_true_iff]
    constructor
    · rintro ⟨t, ht⟩
      injection ht with h1 ht
      injection ht with h2 ht
      rw [← h1, ← h2]; rfl
    · intro h
      simp at h
      exact ⟨r, by rw [h.1, h.2]; rfl⟩
theorem start_sp6 (l : List UInt8) : sp6 (Lib.trimPrefix l [58, 58]) [] (if Lib.hasPrefix l [58, 58] = true then some 0 else none) = parse6 l := by
  rw [sp6_start l]
  unfold Lib.trimPrefix
  rw [pre_two]
  by_cases h : l.take 2 = [58, 58]
  · rw [decide_eq_true h, if_pos rfl, if_pos rfl, if_pos h]; rfl
  · rw [decide_eq_false h, if_neg (by decide), if_neg (by decide), if_neg h]
theorem trim_le (l p : List UInt8) : (Lib.trimPrefix l p).length ≤ l.length := by
  unfold Lib.trimPrefix
  split
  · simp
  · exact Nat.le_refl _
theorem sp6_stop (G : List Nat) : sp6 [] G (some G.length) = fin6 G (some G.length) := by
  rw [sp6_some]
  unfold spB
  rw [if_pos ⟨rfl, rfl⟩]
  simp
theorem set_grp (G : List Nat) (h : G.length < 8) (v : Nat) : (G ++ zerosN (8 - G.length)).set G.length v = (G ++ [v]) ++ zerosN (8 - (G ++ [v]).length) := by
  rw [List.set_append_right _ _ (Nat.le_refl _), Nat.sub_self, List.length_append, List.append_assoc]
  obtain ⟨q, hq⟩ : ∃ q, 8 - G.length = q + 1 := ⟨8 - G.length - 1, by omega⟩
  rw [hq, show 8 - (G.length + [v].length) = q by simp; omega]
  rfl
theorem grp_len8 (G : List Nat) (h : G.length ≤ 8) : (G ++ zerosN (8 - G.length)).length = 8 := by
  rw [List.length_append]
  unfold zerosN
  rw [List.length_replicate]
  omega
theorem set_two (G : List Nat) (h : G.length < 7) (v x y : Nat) : (((G ++ [v]) ++ zerosN (8 - (G ++ [v]).length)).set G.length x).set (G.length + 1) y = (G ++ [x, y]) ++ zerosN (8 - (G ++ [x, y]).length) := by
  have h1 : ((G ++ [v]) ++ zerosN (8 - (G ++ [v]).length)).set G.length x = (G ++ [x]) ++ zerosN (8 - (G ++ [x]).length) := by
    rw [List.append_assoc, List.set_append_right _ _ (Nat.le_refl _), Nat.sub_self, List.append_assoc, List.length_append, List.length_append]
    rfl
  have h2 := set_grp (G ++ [x]) (by simp; omega) y
  rw [List.length_append, List.length_singleton] at h2
  rw [h1, List.length_append, List.length_singleton, h2, show G ++ [x] ++ [y] = G ++ [x, y] by simp]

set_option maxRecDepth 20000 in
set_option maxHeartbeats 8000000 in
theorem pPar6 : P6Par 75 := by
  intro s w hs hp
  have c0 := fun W => Any.strings_CutPrefix Tryz.lays103 s ⟨#[58, 58]⟩ W
  rw [show (⟨#[58, 58]⟩ : ByteArray).data.toList = [58, 58] from rfl] at c0
  have hst := start_sp6 (ls s)
  have hT0 : (bs (Lib.trimPrefix (ls s) [58, 58])).size ≤ 1000000000 := by
    rw [bs_size]
    have := trim_le (ls s) [58, 58]
    rw [ls_length] at this
    omega
  obtain ⟨T0, hT0e⟩ : ∃ T, T = bs (Lib.trimPrefix (ls s) [58, 58]) := ⟨_, rfl⟩
  obtain ⟨p0, hp0⟩ : ∃ p, p = Lib.hasPrefix (ls s) [58, 58] := ⟨_, rfl⟩
  obtain ⟨g0, hg0⟩ : ∃ g : Option Nat, g = if p0 = true then some 0 else none := ⟨_, rfl⟩
  rw [show Lib.trimPrefix (ls s) [58, 58] = ls T0 by rw [hT0e, ls_bs], ← hp0, ← hg0] at hst
  change ∀ W, Calls _ _ _ W fun e w' => e = .returned (.tuple #[.string (bs (Lib.trimPrefix (ls s) [58, 58])), .bool (Lib.hasPrefix (ls s) [58, 58])]) ∧ w' = W at c0
  rw [← hT0e, ← hp0] at c0
  rw [← hT0e] at hT0
  generalize parse6 (ls s) = R at *
  have HT0 := Lib.hid hT0
  have HST := Lib.hid hst
  have HF0 : Hid (p0 = false → gvI g0 = -1) := by
    show _ → _
    intro e
    rw [hg0, e]; rfl
  have HT1 : Hid (p0 = true → gvI g0 = 0) := by
    show _ → _
    intro e
    rw [hg0, e]; rfl
  have HG1 : Hid (g0 = none ∨ g0 = some 0) := by
    show _ ∨ _
    cases p0
    · left; rw [hg0]; rfl
    · right; rw [hg0]; rfl
  have hbd := build_a8
  clear hT0e hp0 hg0 hst hT0 hs
  go_enter Tryz.func75, Tryz.ntmps75
  go_wp2_with (refine wpList_alloc_arr _ rfl 2 rfl _ rfl _ zeroA8 ?_; intro W1 gr hgr hlr hR hG1; have hb1 := below_row0 (Below.refl w.heap.size w) hG1 (Nat.le_refl _))
  go_step3
  go_wp2_with (refine wpList_alloc_arr _ rfl 4 rfl _ rfl _ zeroA8 ?_; intro W2 ga hga hla hA hG2; have hR2 : RowA W2 gr (zerosN 8) := hR.grown0 hG2; have hb2 := below_row0 hb1 hG2 (Nat.le_refl _))
  have hA2 : RowA W2 ga (zerosN 8) := hA
  have hne : ga ≠ gr := by have := hR.lt; omega
  have hwa : w.heap.size ≤ ga := by have := hb1.size; omega
  clear hR hG1 hG2 hA hb1
  refine (c0 _).mono ?_
  rintro e w' ⟨rfl, hw'⟩
  subst hw'
  clear c0
  go_upto_if 19 with fail
  go_cut [6] from 19 to 19 (fun g wx => wx = w' ∧ g = .int .i64 (gvI g0))
  case first =>
    cases p0
    · go_wp2_with fail
      go_meet
      exact ⟨rfl, by rw [HF0.out (by first | rfl | trivial)]⟩
    · go_wp2_with fail
      go_meet
      exact ⟨rfl, by rw [HT1.out (by first | rfl | trivial)]⟩
  case rest =>
    obtain ⟨hwx, hgx⟩ := hcut
    subst hwx
    clear HF0 HT1
    go_wp2_with fail
    go_step3
    go_upto_block 0 with fail
    go_cut [5, 6] from 7 to 94 (fun c g wx => ∃ (G : List Nat) (gap : Option Nat), c = .int .i64 (G.length : Nat) ∧ g = .int .i64 (gvI gap) ∧ Hid (G.length ≤ 8) ∧ Hid (∀ m, gap = some m → m ≤ G.length) ∧ Hid (fin6 G gap = R) ∧ RowA wx ga (G ++ zerosN (8 - G.length)) ∧ RowA wx gr (zerosN 8) ∧ Below w.heap.size w wx)
    case first =>
      go_wp2_with fail
      go_loopg [5, 6, 7] T0.size (fun q c g t wr => ∃ (T : ByteArray) (G : List Nat) (gap : Option Nat), q = T.size ∧ c = .int .i64 (G.length : Nat) ∧ g = .int .i64 (gvI gap) ∧ t = .string T ∧ Hid (T.size ≤ 1000000000) ∧ Hid (G.length ≤ 8) ∧ Hid (∀ m, gap = some m → m ≤ G.length) ∧ Hid (sp6 (ls T) G gap = R) ∧ RowA wr ga (G ++ zerosN (8 - G.length)) ∧ RowA wr gr (zerosN 8) ∧ Below w.heap.size w wr)
      case atStart =>
        refine ⟨T0, [], g0, rfl, rfl, hgx, rfl, HT0, Lib.hid (Nat.zero_le _), ?_, HST, hA2, hR2, hb2⟩
        rcases HG1.out with e | e
        · exact Lib.hid fun m h => by rw [e] at h; cases h
        · exact Lib.hid fun m h => by rw [e] at h; injection h with h; omega
      case round =>
        clear hgx HST HG1 hA2 hR2 hb2 hla HT0
        obtain ⟨T, G, gap, hq, rfl, rfl, rfl, HT, HGL, HGM, HSP, hrA, hrR, hb⟩ := hrel
        have HQ := Lib.hid hq
        clear hq
        obtain ⟨n, hn⟩ : ∃ n : Nat, n = G.length := ⟨_, rfl⟩
        have hn8 : n ≤ 8 := by rw [hn]; exact HGL.out
        have HN := Lib.hid hn
        rw [← hn] at hrA ⊢
        obtain ⟨gv, hgv⟩ : ∃ z : Int, z = gvI gap := ⟨_, rfl⟩
        have HGV := Lib.hid hgv
        rw [← hgv]
        clear hn hgv
        by_cases hT : T.size = 0
        · have hE : (T.toList == ([] : List UInt8)) = true := by rw [empty_eq, decide_eq_true hT]
          have hE2 : T.toList.isEmpty = true := by rw [toList_ls, List.isEmpty_iff]; exact List.eq_nil_of_length_eq_zero (by rw [ls_length]; exact hT)
          have hTn : ls T = [] := List.eq_nil_of_length_eq_zero (by rw [ls_length]; exact hT)
          by_cases hgn : (n : Int) = gv
          · have heq : ((n : Int) == gv) = true := beq_iff_eq.2 hgn
            have hnq : ((n : Int) != gv) = false := by rw [bne, heq]; rfl
            have HF : Hid (fin6 G gap = R) := by
              show _ = _
              rw [← HSP.out, hTn]
              have h1 := HGV.out
              cases gap with
              | none => exfalso; rw [gvI_none] at h1; omega
              | some m =>
                rw [gvI_some] at h1
                have hmn : m = G.length := by rw [← HN.out]; omega
                rw [hmn, sp6_stop]
            clear hT hTn
            have HGN := Lib.hid hgn
            clear hgn
            go_wp2_with fail
            go_meet
            exact ⟨G, gap, by rw [HN.out], by rw [HGV.out], HGL, HGM, HF, by rw [← HN.out]; exact hrA, hrR, hb⟩
          · have heq : ((n : Int) == gv) = false := beq_eq_false_iff_ne.2 hgn
            have hnq : ((n : Int) != gv) = true := by rw [bne, heq]; rfl
            have HRS : Hid (R = none) := by
              show _ = _
              rw [← HSP.out]
              refine sp6_bad (k := 0) (fun e => hgn ?_) (by rw [hTn]; rfl) (.inl rfl)
              rw [HGV.out, e.2, HN.out]; rfl
            have c1 := fun W => lead_any T HT.out W
            rw [hTn, show hexN 4 [] = 0 from rfl] at c1
            rw [List.take_zero, show valB 16 0 [] = 0 from rfl] at c1
            simp only [show ((0 : Nat) : Int) = 0 from rfl] at c1
            clear hT hTn hgn
            go_wp2_with fail
            refine (c1 _).mono ?_
            rintro e w' ⟨rfl, rfl⟩
            go_wp2_with (refine wpList_store_arr _ rfl rfl _ _ _ rfl gr (by exact rfl) (av (zerosN 8)) (by exact rfl) _ _ hrR (sizeA _ rfl) rfl (av_one _) ?_; intro W9 hR9 hG9)
            rw [Exit.noGoto_ret]
            (try simp only [Exit.inBlock, Exit.then])
            refine ret_a8 _ _ rfl gr rfl (zerosN 8) hR9 rfl _ rfl rfl ?_
            exact ⟨by rw [HRS.out]; rfl, below_row hb hG9 (Nat.le_refl _) hgr⟩
        · have hpos : 0 < T.size := Nat.pos_of_ne_zero hT
          have hE : (T.toList == ([] : List UInt8)) = false := by rw [empty_eq, decide_eq_false hT]
          have hE2 : T.toList.isEmpty = false := by
            rw [toList_ls]
            cases h : ls T with
            | nil => exact absurd (by rw [← ls_length, h]; rfl) hT
            | cons => rfl
          have hTne : Hid (ls T ≠ []) := by
            show _ ≠ _
            intro h
            exact hT (by rw [← ls_length, h]; rfl)
          have c1 := fun W => lead_any T HT.out W
          obtain ⟨k, hk⟩ : ∃ k, hexN 4 (ls T) = k := ⟨_, rfl⟩
          rw [hk] at c1
          have hkl := hexN_le 4 (ls T)
          rw [hk, ls_length] at hkl
          obtain ⟨hk4, hks⟩ := hkl
          have hvl : valB 16 0 ((ls T).take k) < 65536 := by
            have h1 := val_lt16 (ls T) k (by rw [← hk]; exact hexN_all 4 (ls T))
            have h2 : (16 : Nat) ^ k ≤ 16 ^ 4 := Nat.pow_le_pow_right (by decide) (by omega)
            have e : (16 : Nat) ^ 4 = 65536 := by decide
            omega
          obtain ⟨v, hv⟩ : ∃ v, v = valB 16 0 ((ls T).take k) := ⟨_, rfl⟩
          rw [← hv] at c1 hvl
          have HK := Lib.hid hk
          have HV := Lib.hid hv
          clear hk hv hT
          by_cases hk0 : k = 0
          · subst hk0
            have HRS : Hid (R = none) := by
              show _ = _
              rw [← HSP.out]
              exact sp6_bad (fun e => hTne.out e.1) HK.out (.inl rfl)
            simp only [show ((0 : Nat) : Int) = 0 from rfl] at c1
            go_wp2_with fail
            refine (c1 _).mono ?_
            rintro e w' ⟨rfl, rfl⟩
            go_wp2_with (refine wpList_store_arr _ rfl rfl _ _ _ rfl gr (by exact rfl) (av (zerosN 8)) (by exact rfl) _ _ hrR (sizeA _ rfl) rfl (av_one _) ?_; intro W9 hR9 hG9)
            rw [Exit.noGoto_ret]
            (try simp only [Exit.inBlock, Exit.then])
            refine ret_a8 _ _ rfl gr rfl (zerosN 8) hR9 rfl _ rfl rfl ?_
            exact ⟨by rw [HRS.out]; rfl, below_row hb hG9 (Nat.le_refl _) hgr⟩
          · have hk1 : ((k : Int) == 0) = false := by rw [beq_eq_false_iff_ne]; omega
            have hk0' : 0 < k := Nat.pos_of_ne_zero hk0
            have HK0 := Lib.hid hk0'
            clear hk0 hk0'
            by_cases h8 : n = 8
            · subst h8
              have HRS : Hid (R = none) := by
                show _ = _
                rw [← HSP.out]
                exact sp6_full (ls T) G gap (fun e => hTne.out e.1) (by rw [← HN.out]; exact Nat.le_refl _)
              go_wp2_with fail
              refine (c1 _).mono ?_
              rintro e w' ⟨rfl, rfl⟩
              go_wp2_with (refine wpList_store_arr _ rfl rfl _ _ _ rfl gr (by exact rfl) (av (zerosN 8)) (by exact rfl) _ _ hrR (sizeA _ rfl) rfl (av_one _) ?_; intro W9 hR9 hG9)
              rw [Exit.noGoto_ret]
              (try simp only [Exit.inBlock, Exit.then])
              refine ret_a8 _ _ rfl gr rfl (zerosN 8) hR9 rfl _ rfl rfl ?_
              exact ⟨by rw [HRS.out]; rfl, below_row hb hG9 (Nat.le_refl _) hgr⟩
            · have hn7 : n < 8 := by omega
              have h81 : ((n : Int) == 8) = false := by rw [beq_eq_false_iff_ne]; omega
              clear h8 hn8
              have hkC : n < (av (G ++ zerosN (8 - n))).size := by rw [av_size, HN.out, grp_len8 G HGL.out]; have := HN.out; omega
              have hk0i : (0 : Int) ≤ (k : Int) := by omega
              have hksi : (k : Int) ≤ (T.size : Int) := by omega
              go_upto_region 14 with (first
                | (go_at_call 114; refine (c1 _).mono ?_; rintro e w' ⟨rfl, rfl⟩)
                | (refine wpList_store_cell _ rfl rfl _ _ _ rfl ga n (by exact rfl) (.int .u16 (v : Int)) (by exact rfl) (by exact rfl) _ (av (G ++ zerosN (8 - n))) hrA hkC sizeU16 ?_; intro W3 hr3 hg3))
              have hA3 : RowA W3 ga ((G ++ [v]) ++ zerosN (8 - (G ++ [v]).length)) := by
                rw [av_set, HN.out, set_grp G (by rw [← HN.out]; exact hn7) v] at hr3
                exact hr3
              have hR3 : RowA W3 gr (zerosN 8) := Row.grown hrR hg3 (fun e => hne e.symm)
              have hb3 := below_row hb hg3 (Nat.le_refl _) hwa
              clear hr3 hg3 hrA hrR hkC c1 hb
              obtain ⟨U, hU⟩ : ∃ U, U = T.extract k T.size := ⟨_, rfl⟩
              rw [← hU]
              have hlu : ls U = (ls T).drop k := by
                rw [hU, ls_extract, List.take_of_length_le (by rw [List.length_drop, ls_length]; exact Nat.le_refl _)]
              have hus : U.size = T.size - k := by rw [← ls_length, hlu, List.length_drop, ls_length]
              have HLU := Lib.hid hlu
              have HUS := Lib.hid hus
              have HGL2 : Hid ((G ++ [v]).length ≤ 8) := by show _ ≤ _; rw [List.length_append, ← HN.out]; simp; omega
              have HGM2 : Hid (∀ m, gap = some m → m ≤ (G ++ [v]).length) := by
                show ∀ m, _ → _
                intro m hm
                have := HGM.out m hm
                rw [List.length_append]; omega
              have HL2 : Hid ((G ++ [v]).length = n + 1) := by show _ = _; rw [List.length_append, ← HN.out]; rfl
              have hcnt : Value.int .i64 ((n : Int) + 1) = Value.int .i64 (((G ++ [v]).length : Nat) : Int) := by rw [HL2.out]; rfl
              have HCNT := Lib.hid hcnt
              have hUb : U.size ≤ 1000000000 := by have := HT.out; omega
              have HUB := Lib.hid hUb
              clear hlu hus hU hk0i hksi hks hcnt
              by_cases hU0 : U.size = 0
              · have hEU : (U.toList == ([] : List UInt8)) = true := by rw [empty_eq, decide_eq_true hU0]
                have hEU2 : U.toList.isEmpty = true := by rw [toList_ls, List.isEmpty_iff]; exact List.eq_nil_of_length_eq_zero (by rw [ls_length]; exact hU0)
                have HF : Hid (fin6 (G ++ [v]) gap = R) := by
                  show _ = _
                  rw [← HSP.out, sp6_end HK.out HK0.out (by rw [← HLU.out]; exact List.eq_nil_of_length_eq_zero (by rw [ls_length]; exact hU0)), HV.out]
                clear hU0
                go_wp2_with fail
                go_meet
                exact ⟨G ++ [v], gap, HCNT.out, by rw [HGV.out], HGL2, HGM2, HF, hA3, hR3, hb3⟩
              · have hup : 0 < U.size := Nat.pos_of_ne_zero hU0
                have hEU : (U.toList == ([] : List UInt8)) = false := by rw [empty_eq, decide_eq_false hU0]
                have hEU2 : U.toList.isEmpty = false := by
                  rw [toList_ls]
                  cases h : ls U with
                  | nil => exact absurd (by rw [← ls_length, h]; rfl) hU0
                  | cons => rfl
                have hD : (ls T).drop k = U[0] :: (ls U).drop 1 := by
                  rw [← HLU.out]
                  have := drop_ls_cons U 0 hup
                  rwa [List.drop_zero] at this
                have HD := Lib.hid hD
                clear hD hU0
                by_cases h46 : U[0] = 46
                · have hq : ((U[0].toNat : Int) == 46) = true := by rw [h46]; rfl
                  have hdot := sp6_dot (G := G) (gap := gap) HK.out (by rw [HD.out, h46])
                  rw [HSP.out] at hdot
                  have c2 := par_any T W3 HT.out (pow6_below hp hb3).1
                  cases hpl : parseL (ls T) with
                  | none =>
                    rw [hpl] at hdot c2
                    simp only at hdot
                    rw [show aV (none : Option Nat) = 0 from rfl, show aK (none : Option Nat) = false from rfl] at c2
                    have HRS := Lib.hid hdot
                    clear hdot hpl h46
                    go_wp2_with fail
                    refine c2.mono ?_
                    rintro e W4 ⟨rfl, hb4'⟩
                    have hb4 := hb3.trans (hb4'.mono hb3.size)
                    have hR4 : RowA W4 gr (zerosN 8) := Row.below hR3 hb4' hR3.lt
                    go_wp2_with (refine wpList_store_arr _ rfl rfl _ _ _ rfl gr (by exact rfl) (av (zerosN 8)) (by exact rfl) _ _ hR4 (sizeA _ rfl) rfl (av_one _) ?_; intro W9 hR9 hG9)
                    rw [Exit.noGoto_ret]
                    (try simp only [Exit.inBlock, Exit.then])
                    refine ret_a8 _ _ rfl gr rfl (zerosN 8) hR9 rfl _ rfl rfl ?_
                    exact ⟨by rw [HRS.out]; rfl, below_row hb4 hG9 (Nat.le_refl _) hgr⟩
                  | some u =>
                    rw [hpl] at hdot c2
                    simp only at hdot
                    rw [show aV (some u) = (u : Int) from rfl, show aK (some u) = true from rfl] at c2
                    have hub := (parseL_some hpl).1
                    have HDOT := Lib.hid hdot
                    clear hdot hpl h46
                    by_cases h7 : n = 7
                    · have HRS : Hid (R = none) := by
                        show _ = _
                        rw [HDOT.out]
                        exact fin6_long _ _ (by rw [List.length_append, ← HN.out, h7]; exact Nat.le_refl 9)
                      have hc8 : ((n : Int) + 1 == 8) = true := by rw [h7]; rfl
                      have HH7 := Lib.hid h7
                      clear h7
                      go_wp2_with fail
                      refine c2.mono ?_
                      rintro e W4 ⟨rfl, hb4'⟩
                      have hb4 := hb3.trans (hb4'.mono hb3.size)
                      have hR4 : RowA W4 gr (zerosN 8) := Row.below hR3 hb4' hR3.lt
                      go_wp2_with (refine wpList_store_arr _ rfl rfl _ _ _ rfl gr (by exact rfl) (av (zerosN 8)) (by exact rfl) _ _ hR4 (sizeA _ rfl) rfl (av_one _) ?_; intro W9 hR9 hG9)
                      rw [Exit.noGoto_ret]
                      (try simp only [Exit.inBlock, Exit.then])
                      refine ret_a8 _ _ rfl gr rfl (zerosN 8) hR9 rfl _ rfl rfl ?_
                      exact ⟨by rw [HRS.out]; rfl, below_row hb4 hG9 (Nat.le_refl _) hgr⟩
                    · have hc8 : ((n : Int) + 1 == 8) = false := by rw [beq_eq_false_iff_ne]; omega
                      have hn6 : n < 7 := by omega
                      obtain ⟨x, hx⟩ : ∃ x, x = u / 65536 := ⟨_, rfl⟩
                      obtain ⟨y, hy⟩ : ∃ y, y = u % 65536 := ⟨_, rfl⟩
                      have hx1 : (u : Int) / 65536 = (x : Int) := by omega
                      have hx2 : IntKind.u16.wrap (x : Int) = (x : Int) := by rw [IntKind.wrap_u16]; omega
                      have hy2 : IntKind.u16.wrap (u : Int) = (y : Int) := by rw [IntKind.wrap_u16]; omega
                      rw [← hx, ← hy] at HDOT
                      have hs1 := set_two G (by rw [← HN.out]; exact hn6) v x y
                      rw [← HN.out] at hs1
                      have hC1 : n < (av ((G ++ [v]) ++ zerosN (8 - (G ++ [v]).length))).size := by rw [av_size, grp_len8 (G ++ [v]) HGL2.out]; omega
                      have hC2 : n + 1 < (av (((G ++ [v]) ++ zerosN (8 - (G ++ [v]).length)).set n x)).size := by rw [av_size, List.length_set, grp_len8 (G ++ [v]) HGL2.out]; omega
                      have HS1 := Lib.hid hs1
                      have HL3 : Hid ((G ++ [x, y]).length = n + 2) := by show _ = _; rw [List.length_append, ← HN.out]; rfl
                      have hn0 : (0 : Int) ≤ (n : Int) := by omega
                      clear h7 hx hy hs1
                      go_wp2_with fail
                      refine c2.mono ?_
                      rintro e W4 ⟨rfl, hb4'⟩
                      have hb4 := hb3.trans (hb4'.mono hb3.size)
                      have hA4 : Row W4 ga 25 (av ((G ++ [v]) ++ zerosN (8 - (G ++ [v]).length))) := Row.below hA3 hb4' hA3.lt
                      have hR4 : RowA W4 gr (zerosN 8) := Row.below hR3 hb4' hR3.lt
                      go_wp2_with (first
                        | (refine wpList_store_cell _ rfl rfl _ _ _ rfl ga n (by exact rfl) (.int .u16 (x : Int)) (by exact rfl) (by exact rfl) _ _ hA4 hC1 sizeU16 ?_; intro W5 hr5 hg5; rw [av_set] at hr5)
                        | (refine wpList_store_cell _ rfl rfl _ _ _ rfl ga (n + 1) (by exact rfl) (.int .u16 (y : Int)) (by exact rfl) (by exact rfl) _ _ hr5 hC2 sizeU16 ?_; intro W6 hr6 hg6; rw [av_set, HS1.out] at hr6))
                      go_meet
                      exact ⟨G ++ [x, y], gap, by rw [HL3.out]; first | rfl | go_num, by rw [HGV.out], Lib.hid (by rw [HL3.out]; omega), Lib.hid (fun m hm => by have := HGM2.out m hm; rw [HL2.out] at this; rw [HL3.out]; omega), Lib.hid HDOT.out.symm, hr6, Row.grown (Row.grown hR4 hg5 (fun e => hne e.symm)) hg6 (fun e => hne e.symm), below_row (below_row hb4 hg5 (Nat.le_refl _) hwa) hg6 (Nat.le_refl _) hwa⟩
                · have hq : ((U[0].toNat : Int) == 46) = false := byte_ne h46
                  have H46 := Lib.hid h46
                  clear h46
                  by_cases h58 : U[0] = 58
                  · have hq5 : ((U[0].toNat : Int) == 58) = true := by rw [h58]; rfl
                    rw [h58] at HD
                    have HD58 := Lib.hid HD.out
                    clear HD h58
                    obtain ⟨r, hr⟩ : ∃ r, r = (ls U).drop 1 := ⟨_, rfl⟩
                    have h1r : ls (U.extract 1 U.size) = r := by
                      rw [ls_extract, List.take_of_length_le (by rw [List.length_drop, ls_length]; exact Nat.le_refl _), hr]
                    rw [← hr] at HD58
                    have HR1 := Lib.hid h1r
                    have HRU := Lib.hid hr
                    have h1i : (1 : Int) ≤ (U.size : Int) := by omega
                    have h1n : 1 ≤ U.size := hup
                    have HQ1 : Hid ((U.extract 1 U.size).size < T.size) := by
                      show _ < _
                      rw [← ls_length, HR1.out, HRU.out, List.length_drop, ls_length]
                      have := HUS.out
                      have := HK0.out
                      omega
                    have HB1 : Hid ((U.extract 1 U.size).size ≤ 1000000000) := by
                      show _ ≤ _
                      have := HQ1.out
                      have := HT.out
                      omega
                    clear hr h1r
                    cases gap with
                    | some m =>
                      have hgvm : (gv == -1) = false := by rw [HGV.out, gvI_some, beq_eq_false_iff_ne]; omega
                      have HSP2 : Hid (sp6 (ls (U.extract 1 U.size)) (G ++ [v]) (some m) = R) := by
                        show _ = _
                        rw [HR1.out, HV.out, ← sp6_col HK.out HK0.out HD58.out (fun e => by cases e) HGM.out, HSP.out]
                      go_wp2_with fail
                      go_roundg ((U.extract 1 U.size).size)
                      case rel => exact ⟨U.extract 1 U.size, G ++ [v], some m, rfl, HCNT.out, by rw [HGV.out], rfl, HB1, HGL2, HGM2, HSP2, hA3, hR3, hb3⟩
                      case measure => rw [HQ.out]; exact HQ1.out
                    | none =>
                      have hgvm : (gv == -1) = true := by rw [HGV.out, gvI_none]; rfl
                      have c3 := fun W => Any.strings_HasPrefix Tryz.lays99 U ⟨#[58, 58]⟩ W
                      rw [show (⟨#[58, 58]⟩ : ByteArray).data.toList = [58, 58] from rfl] at c3
                      change ∀ W, Calls _ _ _ W fun e w' => e = .returned (.bool (Lib.hasPrefix (ls U) [58, 58])) ∧ w' = W at c3
                      by_cases hpx : (ls U).take 2 = [58, 58]
                      · rw [pre_two, decide_eq_true hpx] at c3
                        have hu2 : 2 ≤ U.size := by
                          have := congrArg List.length hpx
                          rw [List.length_take, ls_length] at this
                          simp at this
                          omega
                        have hu2i : (2 : Int) ≤ (U.size : Int) := by omega
                        have h2r : ls (U.extract 2 U.size) = (ls U).drop 2 := by
                          rw [ls_extract, List.take_of_length_le (by rw [List.length_drop, ls_length]; exact Nat.le_refl _)]
                        have hTT : (ls T).drop k = 58 :: 58 :: (ls U).drop 2 := by
                          rw [← HLU.out]
                          have := List.take_append_drop 2 (ls U)
                          rw [hpx] at this
                          exact this.symm
                        have HSP2 : Hid (sp6 (ls (U.extract 2 U.size)) (G ++ [v]) (some (n + 1)) = R) := by
                          show _ = _
                          rw [h2r, HV.out, HN.out, ← sp6_gap HK.out HK0.out hTT, HSP.out]
                        have HQ2 : Hid ((U.extract 2 U.size).size < T.size) := by
                          show _ < _
                          rw [← ls_length, h2r, List.length_drop, ls_length]
                          have := HUS.out
                          have := HK0.out
                          omega
                        have HB2 : Hid ((U.extract 2 U.size).size ≤ 1000000000) := by
                          show _ ≤ _
                          have := HQ2.out
                          have := HT.out
                          omega
                        clear hpx h2r hTT
                        go_wp2_with fail
                        refine (c3 _).mono ?_
                        rintro e w' ⟨rfl, rfl⟩
                        go_wp2_with fail
                        go_roundg ((U.extract 2 U.size).size)
                        case rel => exact ⟨U.extract 2 U.size, G ++ [v], some (n + 1), rfl, HCNT.out, by rw [gvI_some]; first | rfl | go_num, rfl, HB2, HGL2, Lib.hid (fun m hm => by injection hm with hm; rw [HL2.out]; omega), HSP2, hA3, hR3, hb3⟩
                        case measure => rw [HQ.out]; exact HQ2.out
                      · rw [pre_two, decide_eq_false hpx] at c3
                        have HSP2 : Hid (sp6 (ls (U.extract 1 U.size)) (G ++ [v]) none = R) := by
                          show _ = _
                          rw [HR1.out, HV.out, ← sp6_col HK.out HK0.out HD58.out (fun _ e => hpx ?_) HGM.out, HSP.out]
                          rw [HLU.out, HD58.out]
                          cases r with
                          | nil => cases e
                          | cons c t =>
                            have : c = 58 := by simpa using e
                            rw [this]; rfl
                        clear hpx
                        go_wp2_with fail
                        refine (c3 _).mono ?_
                        rintro e w' ⟨rfl, rfl⟩
                        go_wp2_with fail
                        go_roundg ((U.extract 1 U.size).size)
                        case rel => exact ⟨U.extract 1 U.size, G ++ [v], none, rfl, HCNT.out, by rw [HGV.out], rfl, HB1, HGL2, HGM2, HSP2, hA3, hR3, hb3⟩
                        case measure => rw [HQ.out]; exact HQ1.out
                  · have hq5 : ((U[0].toNat : Int) == 58) = false := byte_ne h58
                    have HRS : Hid (R = none) := by
                      show _ = _
                      rw [← HSP.out]
                      exact sp6_bad (fun e => hTne.out e.1) HK.out (.inr ⟨U[0], _, HD.out, h58, H46.out⟩)
                    have H58 := Lib.hid h58
                    clear h58
                    cases gap with
                    | some m =>
                      have hgvm : (gv == -1) = false := by rw [HGV.out, gvI_some, beq_eq_false_iff_ne]; omega
                      go_wp2_with (refine wpList_store_arr _ rfl rfl _ _ _ rfl gr (by exact rfl) (av (zerosN 8)) (by exact rfl) _ _ hR3 (sizeA _ rfl) rfl (av_one _) ?_; intro W9 hR9 hG9)
                      rw [Exit.noGoto_ret]
                      (try simp only [Exit.inBlock, Exit.then])
                      refine ret_a8 _ _ rfl gr rfl (zerosN 8) hR9 rfl _ rfl rfl ?_
                      exact ⟨by rw [HRS.out]; rfl, below_row hb3 hG9 (Nat.le_refl _) hgr⟩
                    | none =>
                      have hgvm : (gv == -1) = true := by rw [HGV.out, gvI_none]; rfl
                      have c3 := fun W => Any.strings_HasPrefix Tryz.lays99 U ⟨#[58, 58]⟩ W
                      rw [show (⟨#[58, 58]⟩ : ByteArray).data.toList = [58, 58] from rfl] at c3
                      change ∀ W, Calls _ _ _ W fun e w' => e = .returned (.bool (Lib.hasPrefix (ls U) [58, 58])) ∧ w' = W at c3
                      have hpx : ¬ (ls U).take 2 = [58, 58] := by
                        rw [HLU.out, HD.out]
                        intro e
                        rw [List.take_succ_cons] at e
                        injection e with e
                        exact H58.out e
                      rw [pre_two, decide_eq_false hpx] at c3
                      clear hpx
                      go_wp2_with fail
                      refine (c3 _).mono ?_
                      rintro e w' ⟨rfl, rfl⟩
                      go_wp2_with (refine wpList_store_arr _ rfl rfl _ _ _ rfl gr (by exact rfl) (av (zerosN 8)) (by exact rfl) _ _ hR3 (sizeA _ rfl) rfl (av_one _) ?_; intro W9 hR9 hG9)
                      rw [Exit.noGoto_ret]
                      (try simp only [Exit.inBlock, Exit.then])
                      refine ret_a8 _ _ rfl gr rfl (zerosN 8) hR9 rfl _ rfl rfl ?_
                      exact ⟨by rw [HRS.out]; rfl, below_row hb3 hG9 (Nat.le_refl _) hgr⟩
    case rest =>
      obtain ⟨G, gap, rfl, rfl, HGL, HGM, HR, hr2, hr, hb⟩ := hcut
      have hgl8 := grp_len8 G HGL.out
      obtain ⟨n, hn⟩ : ∃ n : Nat, n = G.length := ⟨_, rfl⟩
      have hn8 : n ≤ 8 := by rw [hn]; exact HGL.out
      have HN := Lib.hid hn
      rw [← hn] at hr2 hgl8 ⊢
      clear hn HST HG1 hgx hA2 hR2 hb2 hla HT0
      cases gap with
      | none =>
        by_cases h8 : n = 8
        · have HRS : Hid (R = some (G ++ zerosN (8 - n))) := by show _ = _; rw [← HR.out, fin6_none, if_pos (by rw [← HN.out]; exact h8), h8]; simp [zerosN]
          have hd : ((n : Int) == 8) = true := by rw [h8]; rfl
          obtain ⟨F, hF⟩ : ∃ F, F = G ++ zerosN (8 - n) := ⟨_, rfl⟩
          rw [← hF] at hr2 hgl8 HRS
          clear h8 hF HR HGM HN HGL hn8
          go_wp2_with (first
            | (refine wpList_load_arr _ rfl _ _ rfl ga (by exact rfl) _ (av F) hr2 8 _ tyA8 (sizeA F hgl8) ?_)
            | (refine wpList_store_arr _ rfl rfl _ _ _ rfl gr (by exact rfl) (av F) (by exact rfl) _ _ hr (sizeA F hgl8) (by rw [av_size, av_size, hgl8]; rfl) (av_one F) ?_; intro W9 hR9 hG9))
          rw [Exit.noGoto_ret]
          refine ret_a8 _ _ rfl gr rfl F hR9 hgl8 _ rfl rfl ?_
          exact ⟨by rw [HRS.out]; rfl, below_row hb hG9 (Nat.le_refl _) hgr⟩
        · have HRS : Hid (R = none) := by show _ = _; rw [← HR.out, fin6_none, if_neg (by rw [← HN.out]; exact h8)]
          have hd : ((n : Int) == 8) = false := by rw [beq_eq_false_iff_ne]; omega
          clear h8 HR HGM HN HGL
          go_wp2_with (refine wpList_store_arr _ rfl rfl _ _ _ rfl gr (by exact rfl) (av (zerosN 8)) (by exact rfl) _ _ hr (sizeA _ rfl) rfl (av_one _) ?_; intro W9 hR9 hG9)
          rw [Exit.noGoto_ret]
          refine ret_a8 _ _ rfl gr rfl (zerosN 8) hR9 rfl _ rfl rfl ?_
          exact ⟨by rw [HRS.out]; rfl, below_row hb hG9 (Nat.le_refl _) hgr⟩
      | some m =>
        have hm : m ≤ n := by rw [HN.out]; exact HGM.out m rfl
        have hd1 : ((m : Int) == -1) = false := by rw [beq_eq_false_iff_ne]; omega
        have hd2 : ((m : Int) != -1) = true := by rw [bne, hd1]; rfl
        by_cases h8 : n < 8
        · have hd3 : decide ((n : Int) < 8) = true := decide_eq_true (by omega)
          obtain ⟨F, hF⟩ : ∃ F, F = G ++ zerosN (8 - n) := ⟨_, rfl⟩
          have hFn : F.take n = G := by rw [hF, List.take_left' (by rw [HN.out])]
          have hFm : F.take m = G.take m := by rw [← hFn, List.take_take, Nat.min_eq_left hm]
          have HRS : Hid (R = some (F.take m ++ (zerosN (8 - n) ++ (F.take n).drop m))) := by
            show _ = _
            rw [← HR.out, fin6_some, if_pos (by rw [← HN.out]; omega), ← HN.out, hFn, hFm]
          have hEl : (F.take m ++ (zerosN (8 - n) ++ (F.take n).drop m)).length = 8 := by
            rw [hFn, hFm, List.length_append, List.length_append, List.length_take, List.length_drop, ← HN.out]
            unfold zerosN
            rw [List.length_replicate]
            omega
          rw [← hF] at hr2 hgl8
          have c1 := fun W => gap_any F hgl8 n m hm hn8 W
          obtain ⟨E, hE⟩ : ∃ E, E = F.take m ++ (zerosN (8 - n) ++ (F.take n).drop m) := ⟨_, rfl⟩
          rw [← hE] at HRS hEl
          simp only [← hE] at c1
          clear h8 hF HR HGM HN HGL hn8 hFn hFm hE hm
          go_wp2_with (first
            | (refine wpList_load_arr _ rfl _ _ rfl ga (by exact rfl) _ (av F) hr2 8 _ tyA8 (sizeA F hgl8) ?_)
            | (go_at_call 117; refine (c1 _).mono ?_; rintro e W8 ⟨rfl, hb8⟩; have hr8 : RowA W8 gr (zerosN 8) := Row.below hr hb8 hr.lt; have hb9 := hb.trans (hb8.mono hb.size))
            | (refine wpList_store_arr _ rfl rfl _ _ _ rfl gr (by exact rfl) (av E) (by exact rfl) _ _ hr8 (sizeA E hEl) (by rw [av_size, av_size, hEl]; rfl) (av_one E) ?_; intro W9 hR9 hG9))
          rw [Exit.noGoto_ret]
          refine ret_a8 _ _ rfl gr rfl E hR9 hEl _ rfl rfl ?_
          exact ⟨by rw [HRS.out]; rfl, below_row hb9 hG9 (Nat.le_refl _) hgr⟩
        · have HRS : Hid (R = none) := by show _ = _; rw [← HR.out, fin6_some, if_neg (by rw [← HN.out]; omega)]
          have hd3 : decide ((n : Int) < 8) = false := decide_eq_false (by omega)
          clear h8 HR HGM HN HGL
          go_wp2_with (refine wpList_store_arr _ rfl rfl _ _ _ rfl gr (by exact rfl) (av (zerosN 8)) (by exact rfl) _ _ hr (sizeA _ rfl) rfl (av_one _) ?_; intro W9 hR9 hG9)
          rw [Exit.noGoto_ret]
          refine ret_a8 _ _ rfl gr rfl (zerosN 8) hR9 rfl _ rfl rfl ?_
          exact ⟨by rw [HRS.out]; rfl, below_row hb hG9 (Nat.le_refl _) hgr⟩
end

section
open Go.RowKit

theorem tyA65 : Tryz.prog.underlying 189 = some (.array 65 5) := by kernel_rfl
theorem infoA65 : (Tryz.prog.info? 189).map (fun i => (i.zero, i.size)) = some (some (.agg (zeros 65)), 65) := by kernel_rfl
theorem sizeU8' : (Tryz.prog.info? 5).map (·.size) = some 1 := by kernel_rfl
theorem zeroA65 : ∀ w, (zeroValue 189).run Tryz.prog w = .ok (.agg (zeros 65)) w := by
  intro w
  cases hi : Tryz.prog.info? 189 with
  | none => have := infoA65; rw [hi] at this; cases this
  | some i =>
    have := infoA65
    rw [hi] at this
    simp only [Option.map_some, Option.some.injEq, Prod.mk.injEq] at this
    simp [zeroValue, typeInfo, hi, this.1]
/-- The array with L at its end. -/
def tailRow (L : List UInt8) : Array Value := (List.replicate (65 - L.length) (Value.int .u8 0) ++ L.map bv).toArray
theorem tailRow_nil : tailRow [] = zeros 65 := by
  unfold tailRow zeros
  rw [List.map_nil, List.append_nil, List.length_nil, List.toArray_replicate]
theorem tailRow_size (L : List UInt8) (h : L.length ≤ 65) : (tailRow L).size = 65 := by simp [tailRow]; omega
theorem tailRow_set (L : List UInt8) (j : Nat) (h : j + 1 + L.length = 65) (c : UInt8) : (tailRow L).setIfInBounds j (bv c) = tailRow (c :: L) := by
  simp only [tailRow, List.setIfInBounds_toArray]
  congr 1
  rw [List.set_append_left _ _ (by simp; omega)]
  have e : 65 - L.length = j + 1 := by omega
  have e2 : 65 - (c :: L).length = j := by simp; omega
  rw [e, e2, List.replicate_succ', List.set_append_right _ _ (by simp)]
  simp
theorem tailRow_get (L : List UInt8) (j k : Nat) (h : j + L.length = 65) (hk : k < L.length) : (tailRow L)[j + k]? = some (bv (L.getD k 0)) := by
  simp only [tailRow, List.getElem?_toArray]
  rw [List.getElem?_append_right (by simp; omega)]
  simp only [List.length_replicate, List.getElem?_map]
  rw [show j + k - (65 - L.length) = k by omega, List.getElem?_eq_getElem hk, List.getD_eq_getElem?_getD, List.getElem?_eq_getElem hk]
  rfl
theorem tail_has {w : World} {g : Nat} {L : List UInt8} (h : Row w g 189 (tailRow L)) (j : Nat) (hj : j + L.length = 65) : Has w w.heap.size (some ⟨g, j, none⟩) L.length (L.map bv) := by
  refine ⟨by simp, fun _ => ⟨g, j, rfl, h.lt, fun k hk => ?_⟩⟩
  have hk' : k < L.length := by simpa using hk
  rw [cell_of_row w g (j + k) _ _ (0, 0) h, tailRow_get L j k hj hk', List.getElem_map, List.getD_eq_getElem?_getD, List.getElem?_eq_getElem hk']
  rfl
/-- A digit of the table of digits. -/
theorem lit_digit : ∀ r : Fin 16, ((⟨#[48, 49, 50, 51, 52, 53, 54, 55, 56, 57, 97, 98, 99, 100, 101, 102, 103, 104, 105, 106, 107, 108, 109, 110, 111, 112, 113, 114, 115, 116, 117, 118, 119, 120, 121, 122]⟩ : ByteArray)[r.val]?) = some (hexc r.val) := by decide +kernel
theorem wpList_digit (w : World) {ops : Array Oper} {rest : List Oper} {o : Oper} {a : Act} {Q : Exit → Act → World → Prop} (hg : o.guard = none) (x y : Operand) (hop : o.op = .index 9 x y)
    (hx : a.eval x = .string ⟨#[48, 49, 50, 51, 52, 53, 54, 55, 56, 57, 97, 98, 99, 100, 101, 102, 103, 104, 105, 106, 107, 108, 109, 110, 111, 112, 113, 114, 115, 116, 117, 118, 119, 120, 121, 122]⟩) (z : Int) (hy : a.eval y = .int .u64 z)
    (r : Nat) (hr : r < 16) (hz : z = (r : Int)) (h : wpList Tryz.prog ops Q rest (a.put o.dst (bv (hexc r))) w) : wpList Tryz.prog ops Q (o :: rest) a w := by
  refine wpList_plain hg fun K hK => ?_
  subst hz
  have e := lit_digit ⟨r, hr⟩
  simp only at e
  have e2 : Value.int .u8 ((hexc r).toNat : Int) = bv (hexc r) := rfl
  unfold Oper.wp
  simp [execOp, hop, hx, hy, Instr.index, run_underlying tyStr, asIntOf, e, e2, Result.andThen]
  exact hK _ _ h
theorem isPow_16 (w : World) : Calls Tryz.prog 232 #[.int .i64 16] w fun e w' => e = .returned (.bool true) ∧ w = w' := by
  have h1 : bits .and .i64 16 15 = 0 := by decide +kernel
  go_enter Tryz.func232, Tryz.ntmps232
  go_wp2
  go_ret
  exact ⟨rfl, rfl⟩
theorem tz64_16 (w : World) (hp : Pow6 w) : Calls Tryz.prog 236 #[.int .u64 16] w fun e w' => e = .returned (.int .i64 4) ∧ w = w' := by
  have key : IntKind.u64.wrap (bits .and .u64 16 (IntKind.u64.wrap (-16)) * 285870213051353865) / 288230376151711744 = 15 := by decide +kernel
  have h2 := hp.2
  go_enter Tryz.func236, Tryz.ntmps236
  go_wp2_with (simp only [key])
  go_ret
  exact ⟨rfl, rfl⟩
theorem tz_16 (w : World) (hp : Pow6 w) : Calls Tryz.prog 233 #[.int .u64 16] w fun e w' => e = .returned (.int .i64 4) ∧ w = w' := by
  have c1 := tz64_16 w hp
  go_enter Tryz.func233, Tryz.ntmps233
  go_wp2_with fail
  refine c1.mono ?_
  rintro e w' ⟨rfl, rfl⟩
  go_wp2
  go_ret
  exact ⟨rfl, rfl⟩

set_option maxRecDepth 20000 in
set_option maxHeartbeats 4000000 in
theorem fbits_any (B n u : Nat) (hu : u < 65536) (sv : Value) (l : List UInt8) (w : World) (hp : Pow6 w) (hown : w.ownsRow B 5 1 sv n (l.map bv)) (hB : B ≤ w.heap.size) (hn : n ≤ 1000000000) :
    Calls Tryz.prog 220 #[sv, .int .u64 u, .int .i64 16, .bool false, .bool true] w fun e w' => ∃ v', e = .returned (.tuple #[v', .string ⟨#[]⟩]) ∧ w'.ownsRow B 5 1 v' (n + (hexT u).length) ((l ++ hexT u).map bv) ∧ Below B w w' := by
  obtain ⟨i5, hi5, hz0, hz1, hz2⟩ := info_parts infoU8
  obtain ⟨hl1, hl4⟩ := hexT_len u hu
  obtain ⟨T, hT⟩ : ∃ T, T = hexT u := ⟨_, rfl⟩
  rw [← hT] at hl1 hl4 ⊢
  have HT : Hid (digsB 16 u ++ [] = T) := by show _ = _; rw [List.append_nil, hT]; rfl
  clear hT
  go_enter Tryz.func220, Tryz.ntmps220
  go_wp2_with (refine wpList_alloc_arr _ rfl 12 rfl _ rfl _ zeroA65 ?_; intro W1 g hg hl hR hG)
  have hb1 : Below B w W1 := below_row0 (Below.refl B w) hG hB
  have hb1' : Below w.heap.size w W1 := below_row0 (Below.refl w.heap.size w) hG (Nat.le_refl _)
  have hp1 := pow6_below hp hb1'
  have hown1 := own_below hown hb1'
  have hBg : B ≤ g := by omega
  have hR1 : Row W1 g 189 (tailRow []) := by rw [tailRow_nil]; exact hR
  have HBW := Lib.hid hb1.size
  have hb1w : Below w.heap.size w W1 := hb1'
  clear hR hG hb1' hown1 hb1
  refine (isPow_16 _).mono ?_
  rintro e w' ⟨rfl, rfl⟩
  go_wp2_with fail
  refine (tz_16 _ hp1).mono ?_
  rintro e w' ⟨rfl, rfl⟩
  go_wp2
  go_loopw [1, 13] (fun m i wr => ∃ (M k : Nat) (L : List UInt8), m = .int .u64 M ∧ i = .int .i64 ((k : Int) + 1) ∧ Hid (k + 1 + L.length = 65) ∧ Hid (M < 65536) ∧ Hid (digsB 16 M ++ L = T) ∧ Row wr g 189 (tailRow L) ∧ Below w.heap.size w wr) (fun m _ _ => (intOf m).toNat)
  case atStart => exact ⟨u, 64, [], rfl, rfl, Lib.hid rfl, Lib.hid hu, HT, hR1, hb1w⟩
  case round =>
    obtain ⟨M, k, L, rfl, rfl, HK, HM, HD, hrow, hb⟩ := hrel
    have hks : k < (tailRow L).size := by have := HK.out; rw [tailRow_size L (by omega)]; omega
    have hk65 : k < 65 := by have := HK.out; omega
    have hL4 : L.length ≤ 4 := by
      have := congrArg List.length HD.out
      rw [List.length_append] at this
      omega
    by_cases hM : M < 16
    · have hd : decide ((M : Int) ≥ 16) = false := decide_eq_false (by omega)
      have HT2 : Hid (hexc M :: L = T) := by show _ = _; rw [← HD.out, digsB_small hM]; rfl
      have hsl := fun W => run_slice_arr (P := Tryz.prog) 189 5 65 g k 65 tyA65 sizeU8' (some (.int .i64 (k : Int))) none (.inl rfl) (.inr ⟨rfl, rfl⟩) (by omega) (Nat.le_refl _) W
      rw [if_neg (by omega), show 65 - k = T.length by rw [← HT2.out]; have := HK.out; simp only [List.length_cons]; omega] at hsl
      go_wp2_with (first
        | (refine wpList_digit _ rfl _ _ rfl (by exact rfl) _ (by exact rfl) M hM rfl ?_)
        | (refine wpList_store_cell _ rfl rfl _ _ _ rfl g k (by exact rfl) (bv (hexc M)) (by exact rfl) (by exact rfl) _ (tailRow L) hrow hks sizeU8' ?_; intro w4 hr4 hg4; rw [tailRow_set L k HK.out] at hr4; have hb4 := below_row hb hg4 (Nat.le_refl _) hg; have hown4 := own_below hown hb4; have hh := tail_has hr4 k (by have := HK.out; simp only [List.length_cons]; omega); rw [HT2.out] at hh)
        | (at_builtin; refine wpList_app_has (w0 := w) _ rfl _ _ 40 rfl B 5 i5 (.int .u8 0) 1 tyBs hi5 hz0 hz1 hz2 rfl sv n _ (by exact rfl) hown4 _ _ _ _ _ (by exact rfl) (fun e => by cases e) hh (one_bytes T) (by unfold maxLen; omega) (by omega) (hb4.mono hB) hB ?_; intro v5 w5 hown5 hb5 hg5))
      rw [← List.map_append] at hown5
      go_ret2
      exact ⟨v5, rfl, hown5, hb5⟩
    · have hd : decide ((M : Int) ≥ 16) = true := decide_eq_true (by omega)
      obtain ⟨r, hr⟩ : ∃ r, r = M % 16 := ⟨_, rfl⟩
      obtain ⟨q, hq⟩ : ∃ q, q = M / 16 := ⟨_, rfl⟩
      have hr16 : r < 16 := by omega
      have hand : bits .and .u64 (M : Int) 15 = (r : Int) := by
        have := u64_and_nat M 15 (by have := HM.out; omega) (by omega)
        rw [show ((15 : Nat) : Int) = 15 from rfl] at this
        rw [this, hr, show 15 = 2 ^ 4 - 1 from rfl, Nat.and_two_pow_sub_one_eq_mod]
      have hsh : (M : Int) / 16 = (q : Int) := by omega
      have HD2 : Hid (digsB 16 q ++ (hexc r :: L) = T) := by
        show _ = _
        rw [← HD.out, digsB_step (by decide) (by have := HM.out; omega) hM, hr, hq, List.append_assoc]
        rfl
      have HQ : Hid (q < 65536) := by show _ < _; have := HM.out; omega
      have HQM : Hid (q < M) := by show _ < _; omega
      clear hr hq
      go_wp2_with (first
        | (refine wpList_digit _ rfl _ _ rfl (by exact rfl) _ (by exact rfl) r hr16 (by first | exact rfl | exact hand) ?_)
        | (refine wpList_store_cell _ rfl rfl _ _ _ rfl g k (by exact rfl) (bv (hexc r)) (by exact rfl) (by exact rfl) _ (tailRow L) hrow hks sizeU8' ?_; intro w4 hr4 hg4))
      rw [tailRow_set L k HK.out] at hr4
      obtain ⟨k', rfl⟩ : ∃ k', k = k' + 1 := ⟨k - 1, by have := HK.out; omega⟩
      go_roundw
      case rel => exact ⟨q, k', hexc r :: L, by first | rfl | go_num, by first | rfl | go_num, Lib.hid (by have := HK.out; simp only [List.length_cons]; omega), HQ, HD2, hr4, below_row hb hg4 (Nat.le_refl _) hg⟩
      case measure => simp [intOf]; exact HQM.out
end

section
open Go.RowKit

theorem iappend16_any (B n u : Nat) (hu : u < 65536) (sv : Value) (l : List UInt8) (w : World) (hp : Pow6 w) (hown : w.ownsRow B 5 1 sv n (l.map bv)) (hB : B ≤ w.heap.size) (hn : n ≤ 1000000000) :
    Calls Tryz.prog 216 #[sv, .int .u64 u, .int .i64 16] w fun e w' => ∃ v', e = .returned v' ∧ w'.ownsRow B 5 1 v' (n + (hexT u).length) ((l ++ hexT u).map bv) ∧ Below B w w' := by
  have c1 := fbits_any B n u hu sv l w hp hown hB hn
  clear hown hp
  go_enter Tryz.func216, Tryz.ntmps216
  go_wp2_with fail
  refine c1.mono ?_
  rintro e w' ⟨v', rfl, h1, h2⟩
  go_wp2
  go_ret
  exact ⟨_, rfl, h1, h2⟩
theorem append16_any (B n u : Nat) (hu : u < 65536) (sv : Value) (l : List UInt8) (w : World) (hp : Pow6 w) (hown : w.ownsRow B 5 1 sv n (l.map bv)) (hB : B ≤ w.heap.size) (hn : n ≤ 1000000000) :
    Calls Tryz.prog 188 #[sv, .int .u64 u, .int .i64 16] w fun e w' => ∃ v', e = .returned v' ∧ w'.ownsRow B 5 1 v' (n + (hexT u).length) ((l ++ hexT u).map bv) ∧ Below B w w' := by
  have c1 := iappend16_any B n u hu sv l w hp hown hB hn
  clear hown hp
  go_enter Tryz.func188, Tryz.ntmps188
  go_wp2_with fail
  refine c1.mono ?_
  rintro e w' ⟨v', rfl, h1, h2⟩
  go_wp2
  go_ret
  exact ⟨_, rfl, h1, h2⟩

/-- The texts of the first groups. -/
def jn (g : List Nat) (k : Nat) : List UInt8 := joinL 58 ((g.take k).map hexT)
theorem jn_succ (g : List Nat) (k : Nat) (h : k < g.length) : jn g (k + 1) = jn g k ++ ((if k = 0 then [] else [58]) ++ hexT (g.getD k 0)) := by
  unfold jn
  rw [take_snoc g k h, List.map_append, List.map_singleton, join_snoc58]
  congr 2
  by_cases hk : k = 0
  · subst hk; simp
  · rw [if_neg hk, if_neg]
    simp only [List.map_eq_nil_iff]
    intro e
    have := congrArg List.length e
    rw [List.length_take] at this
    simp only [List.length_nil] at this
    omega
theorem jn_len (g : List Nat) (hg : G16 g) (k : Nat) (hk : k ≤ 8) : (jn g k).length ≤ 40 := by
  have := join_len (g.take k) (hg.take k)
  rw [List.length_take] at this
  unfold jn
  omega
theorem own_nil8 (w : World) (B : Nat) : w.ownsRow B 5 1 (.slice none 0 0) 0 [] := ⟨rfl, .inl ⟨rfl, rfl⟩⟩

set_option maxRecDepth 20000 in
set_option maxHeartbeats 4000000 in
theorem joined_any (A : Option Addr) (n cap : Nat) (g : List Nat) (hg : G16 g) (hn8 : n ≤ 8) (w : World) (hp : Pow6 w) (hh : Has w w.heap.size A n (uv g)) :
    Calls Tryz.prog 190 #[.slice A n cap] w fun e w' => e = .returned (.string (bs (joinL 58 (g.map hexT)))) ∧ Below w.heap.size w w' := by
  obtain ⟨i5, hi5, hz0, hz1, hz2⟩ := info_parts infoU8
  have hlen : g.length = n := by have := hh.1; rwa [uv_length] at this
  have HF : Hid (jn g n = joinL 58 (g.map hexT)) := by show _ = _; unfold jn; rw [← hlen, List.take_length]
  have HG := Lib.hid hg
  have HL := Lib.hid hlen
  clear hg hlen
  go_enter Tryz.func190, Tryz.ntmps190
  go_wp2
  go_loopw [3, 8] (fun t i wr => ∃ k : Nat, k ≤ n ∧ i = .int .i64 k ∧ wr.ownsRow w.heap.size 5 1 t (jn g k).length ((jn g k).map bv) ∧ Below w.heap.size w wr) (fun _ i _ => n - (intOf i).toNat)
  case atStart => exact ⟨0, Nat.zero_le _, rfl, own_nil8 w _, Below.refl _ _⟩
  case round =>
    obtain ⟨k, hk, rfl, hown, hb⟩ := hrel
    by_cases hlt : k < n
    · obtain ⟨b, off, rfl, hc⟩ := uv_cell (hh.below hb) k hlt
      have hx : g.getD k 0 < 65536 := by
        refine HG.out _ ?_
        rw [List.getD_eq_getElem?_getD, List.getElem?_eq_getElem (by rw [HL.out]; exact hlt), Option.getD_some]
        exact List.getElem_mem _
      have hs := jn_succ g k (by rw [HL.out]; exact hlt)
      have hjl := jn_len g HG.out k (by omega)
      generalize g.getD k 0 = x at *
      have hwr : IntKind.u64.wrap (x : Int) = (x : Int) := by rw [IntKind.wrap_u64]; omega
      by_cases h0 : k = 0
      · have HN : Hid (jn g (k + 1) = jn g k ++ hexT x) := by show _ = _; rw [hs, if_pos h0]; rfl
        have hd : decide ((0 : Int) < (k : Int)) = false := decide_eq_false (by omega)
        have hdN : decide (0 < k) = false := decide_eq_false (by omega)
        clear hs h0
        go_wp2_with fail
        refine (append16_any w.heap.size _ x hx _ _ _ (pow6_below hp hb) hown hb.size (by omega)).mono ?_
        rintro e w1 ⟨v1, rfl, hown1, hb1⟩
        replace hb1 := hb.trans hb1
        have hl : (jn g (k + 1)).length = (jn g k).length + (hexT x).length := by rw [HN.out, List.length_append]
        rw [← HN.out, ← hl] at hown1
        go_wp2
        go_roundw
        case rel => exact ⟨k + 1, by omega, by go_num, hown1, hb1⟩
        case measure => simp [intOf]; omega
      · have HN : Hid (jn g (k + 1) = (jn g k ++ [58]) ++ hexT x) := by show _ = _; rw [hs, if_neg h0, List.append_assoc]
        have hd : decide ((0 : Int) < (k : Int)) = true := decide_eq_true (by omega)
        have hdN : decide (0 < k) = true := decide_eq_true (by omega)
        clear hs h0
        go_wp2_with (at_builtin; refine wpList_app_one wr rfl _ _ 40 rfl w.heap.size 5 i5 (.int .u8 0) 1 tyBs hi5 hz0 hz1 hz2 rfl _ (by exact rfl) _ _ _ (by exact rfl) hown (by exact rfl) (by unfold maxLen; omega) (by omega) hb (Nat.le_refl _) ?_; intro v2 w2 hown2 hb2 hgr)
        rw [show (jn g k).map bv ++ [Value.int .u8 58] = (jn g k ++ [58]).map bv by rw [List.map_append]; rfl] at hown2
        go_wp2_with fail
        refine (append16_any w.heap.size _ x hx _ _ _ (pow6_below hp hb2) hown2 hb2.size (by omega)).mono ?_
        rintro e w1 ⟨v1, rfl, hown1, hb1⟩
        replace hb1 := hb2.trans hb1
        have hl : (jn g (k + 1)).length = (jn g k).length + 1 + (hexT x).length := by rw [HN.out, List.length_append, List.length_append]; rfl
        rw [← HN.out, ← hl] at hown1
        go_wp2
        go_roundw
        case rel => exact ⟨k + 1, by omega, by go_num, hown1, hb1⟩
        case measure => simp [intOf]; omega
    · obtain rfl : k = n := by omega
      have hconv := str_owned wr _ _ _ _ hown
      rw [HF.out] at hconv
      go_wp2
      go_ret
      exact ⟨rfl, hb⟩
end

section
open Go.RowKit

/-- n groups from f on cleared. -/
def clr (a : List Nat) (f n : Nat) : List Nat := a.take f ++ (zerosN n ++ a.drop (f + n))
theorem clr_length (a : List Nat) (f n : Nat) (h : f + n ≤ a.length) : (clr a f n).length = a.length := by
  unfold clr zerosN
  simp
  omega
theorem clr_iff (a : List Nat) (f n : Nat) (h : f + n ≤ a.length) : clr a f n = a ↔ n ≤ zrun (a.drop f) := by
  have hsp : a = a.take f ++ ((a.drop f).take n ++ (a.drop f).drop n) := by rw [List.take_append_drop, List.take_append_drop]
  have hlen : ((a.drop f).take n).length = n := by simp; omega
  have h1 : clr a f n = a ↔ (a.drop f).take n = zerosN n := by
    unfold clr
    rw [← List.drop_drop]
    constructor
    · intro e
      conv at e => rhs; rw [hsp]
      have := List.append_cancel_left e
      exact (List.append_inj this (by simp [zerosN]; omega)).1.symm
    · intro e
      conv => rhs; rw [hsp, e]
  rw [h1]
  generalize a.drop f = b at hlen ⊢
  clear h1 hsp
  constructor
  · intro e
    have : ∀ (b : List Nat) (n : Nat), b.take n = zerosN n → n ≤ zrun b := by
      intro b
      induction b with
      | nil => intro n e; cases n with
        | zero => exact Nat.zero_le _
        | succ n => simp [zerosN, List.replicate_succ] at e
      | cons x r ih =>
        intro n e
        cases n with
        | zero => exact Nat.zero_le _
        | succ n =>
          simp only [zerosN, List.replicate_succ, List.take_succ_cons, List.cons.injEq] at e
          have h2 := ih n e.2
          unfold zrun at h2 ⊢
          rw [List.takeWhile_cons, if_pos (by simp [e.1])]
          simp only [List.length_cons]
          omega
    exact this b n e
  · intro hle
    have h2 := zrun_zero b
    have h3 : b.take n = (b.take (zrun b)).take n := by rw [List.take_take, Nat.min_eq_left hle]
    rw [h3, h2]
    unfold zerosN
    rw [List.take_replicate, Nat.min_eq_left hle]
/-- Not one run of two. -/
theorem best_no (a : List Nat) (h : ∀ f, zrun (a.drop f) ≤ 1) : ∀ k, bestUpto a k = (-1, 1)
  | 0 => rfl
  | k + 1 => by
    rw [bestUpto_succ, best_no a h k]
    unfold bestStep
    have := h k
    rw [if_neg (by omega)]
/-- The first one of the longest. -/
theorem best_yes (a : List Nat) (i L : Nat) (h2 : 2 ≤ L) (hi : zrun (a.drop i) = L) (hb : ∀ f, f < i → zrun (a.drop f) < L) (ha : ∀ f, zrun (a.drop f) ≤ L) :
    ∀ k, (k ≤ i → (bestUpto a k).2 < L) ∧ (i < k → bestUpto a k = ((i : Int), L))
  | 0 => ⟨fun _ => by show 1 < L; omega, fun h => by omega⟩
  | k + 1 => by
    have ih := best_yes a i L h2 hi hb ha k
    rw [bestUpto_succ]
    unfold bestStep
    refine ⟨fun hk => ?_, fun hk => ?_⟩
    · split
      · exact hb k (by omega)
      · exact ih.1 (by omega)
    · by_cases hki : k = i
      · subst hki
        rw [hi, if_pos (ih.1 (Nat.le_refl _))]
      · rw [ih.2 (by omega), if_neg (by have := ha k; simp only; omega)]

/-- All runs that are longer than L were tried. -/
def Tried (a : List Nat) (L : Nat) : Prop := ∀ n f, L < n → f + n ≤ 8 → clr a f n ≠ a
theorem tried_all (a : List Nat) : Tried a 8 := fun n f h h2 => by omega
theorem tried_next {a : List Nat} {L : Nat} (h : Tried a L) (hn : ∀ f, f + L ≤ 8 → clr a f L ≠ a) (h0 : 0 < L) : Tried a (L - 1) := by
  intro n f h1 h2
  by_cases e : n = L
  · subst e; exact hn f h2
  · exact h n f (by omega) h2
theorem tried_zrun {a : List Nat} (ha : a.length = 8) {L : Nat} (h : Tried a L) (f : Nat) : zrun (a.drop f) ≤ L := by
  by_cases hc : L < zrun (a.drop f)
  · have h1 := zrun_le (a.drop f)
    rw [List.length_drop] at h1
    exact absurd ((clr_iff a f _ (by omega)).2 (Nat.le_refl _)) (h _ f hc (by omega))
  · omega
theorem tried_none {a : List Nat} (ha : a.length = 8) (h : Tried a 1) : bestUpto a 8 = (-1, 1) := best_no a (tried_zrun ha h) 8
theorem tried_some {a : List Nat} (ha : a.length = 8) {L i : Nat} (h2 : 2 ≤ L) (h : Tried a L) (hb : ∀ f, f < i → clr a f L ≠ a) (hi : i + L ≤ 8) (hc : clr a i L = a) : bestUpto a 8 = ((i : Int), L) := by
  have h3 := (clr_iff a i L (by omega)).1 hc
  refine (best_yes a i L h2 (by have := tried_zrun ha h i; omega) (fun f hf => ?_) (tried_zrun ha h) 8).2 (by omega)
  by_cases hq : L ≤ zrun (a.drop f)
  · exact absurd ((clr_iff a f L (by omega)).2 hq) (hb f hf)
  · omega

theorem zeroU16 : ∀ w, (zeroValue 24).run Tryz.prog w = .ok (.int .u16 0) w := by
  intro w
  cases hi : Tryz.prog.info? 24 with
  | none => have := infoU16; rw [hi] at this; cases this
  | some i =>
    have := infoU16
    rw [hi] at this
    simp only [Option.map_some, Option.some.injEq, Prod.mk.injEq] at this
    simp [zeroValue, typeInfo, hi, this.1]
theorem zero_cells (n : Nat) : (Builtin.zeroCells (Value.int .u16 0).cells n).toList = uv (zerosN n) := by
  have h : (Value.int .u16 0).cells = #[.int .u16 0] := rfl
  rw [h]
  apply List.ext_getElem
  · simp [Builtin.zeroCells, uv, zerosN]
  · intro i h1 h2
    simp [Builtin.zeroCells, uv, zerosN, Nat.mod_one]
/-- clear(a[f:f+n]) of an array of eight groups. -/
theorem wpList_clear_a8 (w : World) {ops : Array Oper} {rest : List Oper} {o : Oper} {a : Act} {Q : Exit → Act → World → Prop} (hg : o.guard = none) (hd : o.dst = none) (x : Operand)
    (hop : o.op = .call { callee := .builtin .clear, args := #[x], argTypes := #[79] }) (g f n cap : Nat) (hx : a.eval x = .slice (some ⟨g, f, none⟩) n cap) (C : List Nat) (hrow : RowA w g C) (hC : C.length = 8) (h8 : f + n ≤ 8) (h0 : 0 < n)
    (h : ∀ w', RowA w' g (clr C f n) → w.grownBy w' (some g) → wpList Tryz.prog ops Q rest a w') : wpList Tryz.prog ops Q (o :: rest) a w := by
  refine wpList_plain hg fun K hK => ?_
  obtain ⟨m, rfl⟩ : ∃ m, n = m + 1 := ⟨n - 1, by omega⟩
  have hsz : (av C).size = 8 := by rw [av_size, hC]
  have hst := run_storeCells_at Tryz.prog g f 25 (uv (zerosN (m + 1))) 0 (av C) w hrow (by rw [uv_length, hsz]; simp [zerosN]; omega) (uv_one _)
  have hval : ((av C).toList.take (f + 0) ++ uv (zerosN (m + 1)) ++ (av C).toList.drop (f + 0 + (uv (zerosN (m + 1))).length)).toArray = av (clr C f (m + 1)) := by
    have hl : (uv (zerosN (m + 1))).length = m + 1 := by rw [uv_length]; simp [zerosN]
    rw [hl]
    simp [av, uv, clr, List.map_take, List.map_drop]
  rw [hval] at hst
  have hrun : (Builtin.clear_ #[79] o.type #[.slice (some ⟨g, f, none⟩) (m + 1) cap]).run Tryz.prog w = .ok (.tuple #[]) (w.setRow g (av (clr C f (m + 1)))) := by
    simp [Builtin.clear_, run_underlying tyU16s, zero_cells, hst, Result.andThen]
  have : wpList Tryz.prog ops Q rest (a.put o.dst (.tuple #[])) (w.setRow g (av (clr C f (m + 1)))) := by
    rw [hd]
    exact h _ (setRow_heap w g (av C) _ _ _ hrow) (grown_setRow w g _)
  unfold Oper.wp
  simp [execOp, hop, resolve, invoke, builtin, hx, hrun, Result.andThen]
  exact hK _ _ this

/-- The place of the gap. -/
def lzS (a : List Nat) : Nat := if (bestUpto a 8).1 < 0 then 0 else (bestUpto a 8).1.toNat
def lzE (a : List Nat) : Nat := if (bestUpto a 8).1 < 0 then 0 else (bestUpto a 8).1.toNat + (bestUpto a 8).2

set_option maxRecDepth 20000 in
set_option maxHeartbeats 4000000 in
theorem long_any (a : List Nat) (ha : a.length = 8) (w : World) :
    Calls Tryz.prog 189 #[.agg (av a)] w fun e w' => e = .returned (.tuple #[.int .i64 (lzS a : Nat), .int .i64 (lzE a : Nat)]) ∧ Below w.heap.size w w' := by
  have HAL := Lib.hid ha
  go_enter Tryz.func189, Tryz.ntmps189
  go_wp2_with (refine wpList_box_arr _ rfl 1 rfl _ _ rfl _ (av a) (by exact rfl) (by exact rfl) ?_; intro W1 ga hga hla hA hG)
  have hb1 : Below w.heap.size w W1 := below_row0 (Below.refl w.heap.size w) hG (Nat.le_refl _)
  clear hG
  go_loopw [4] (fun i wr => ∃ (L : Nat) (z : Int), i = .int .i64 z ∧ Hid (z = (L : Int)) ∧ 1 ≤ z ∧ z ≤ 8 ∧ Hid (Tried a L) ∧ RowA wr ga a ∧ Below w.heap.size w wr) (fun i _ => (intOf i).toNat)
  case atStart => exact ⟨8, 8, rfl, Lib.hid rfl, by omega, by omega, Lib.hid (tried_all a), hA, hb1⟩
  case round =>
    obtain ⟨L, z, rfl, HZ, hz1, hz8, HTR, hrow, hb⟩ := hrel
    by_cases h2 : 2 ≤ z
    · have hd : decide (z ≥ 2) = true := decide_eq_true h2
      have hL2 : 2 ≤ L := by have := HZ.out; omega
      have HL2 := Lib.hid hL2
      clear hL2
      go_wp2
      go_loopw [14] (fun i wq => ∃ k : Nat, i = .int .i64 k ∧ (k : Int) ≤ 8 - z + 1 ∧ Hid (∀ f, f < k → clr a f L ≠ a) ∧ RowA wq ga a ∧ Below w.heap.size w wq) (fun i _ => 9 - (intOf i).toNat)
      case atStart => exact ⟨0, rfl, by omega, Lib.hid (fun f hf => by omega), hrow, hb⟩
      case round =>
        obtain ⟨k, rfl, hk, HN, hrow2, hb2⟩ := hrel
        by_cases hlt : (k : Int) < 8 - z + 1
        · have hd2 : decide ((k : Int) < 8 - z + 1) = true := decide_eq_true hlt
          have hkL : k + L ≤ 8 := by have := HZ.out; omega
          have hL0 : 0 < L := by have := HL2.out; omega
          have hsl := fun g W => run_slice_arr (P := Tryz.prog) 25 24 8 g k (k + L) tyA8 sizeU16 (some (.int .i64 (k : Int))) (some (.int .i64 ((k : Int) + z))) (.inl rfl) (.inl (by rw [HZ.out, Int.natCast_add])) (by omega) hkL W
          simp only [if_neg (show ¬ 8 = k by have := HL2.out; omega), show k + L - k = L by omega] at hsl
          obtain ⟨E, hE⟩ : ∃ E, E = clr a k L := ⟨_, rfl⟩
          have hEl : E.length = 8 := by rw [hE, clr_length a k L (by rw [HAL.out]; exact hkL), HAL.out]
          have heq := eq_av E a hEl HAL.out
          have HE := Lib.hid hE
          have HK8 := Lib.hid hkL
          have HL0 := Lib.hid hL0
          clear hE hkL hL0
          by_cases hc : E = a
          · have hdc : decide (E = a) = true := decide_eq_true hc
            rw [hdc] at heq
            have HS : Hid (lzS a = k ∧ lzE a = k + L) := by
              have := tried_some HAL.out HL2.out HTR.out HN.out HK8.out (HE.out ▸ hc)
              show _ ∧ _
              unfold lzS lzE
              rw [this, if_neg (by simp only; omega), if_neg (by simp only; omega)]
              exact ⟨by simp, by simp⟩
            clear hdc hc
            go_wp2_with (first
              | (refine wpList_load_arr _ rfl _ _ rfl ga (by exact rfl) _ (av a) hrow2 8 _ tyA8 (sizeA a HAL.out) ?_)
              | (refine wpList_alloc_arr _ rfl 6 rfl _ rfl _ zeroA8 ?_; intro W4 gc hgc hlc hC hGc; have hrow4 := hrow2.grown0 hGc; have hb4 := below_row0 hb2 hGc (Nat.le_refl _); have hne : ga ≠ gc := (by have := hrow2.lt; omega); have hgw : w.heap.size ≤ gc := (by have := hb2.size; omega))
              | (refine wpList_store_arr _ rfl rfl _ _ _ rfl gc (by exact rfl) (av a) (by exact rfl) _ _ hC (sizeA a HAL.out) (by rw [av_size, av_size, HAL.out]; rfl) (av_one a) ?_; intro W5 hC5 hG5; have hrow5 := hrow4.grown hG5 hne; have hb5 := below_row hb4 hG5 (Nat.le_refl _) hgw)
              | (refine wpList_clear_a8 _ rfl rfl _ rfl gc k L (8 - k) (by exact rfl) a hC5 HAL.out HK8.out HL0.out ?_; intro W6 hC6 hG6; have hrow6 := hrow5.grown hG6 hne; have hb6 := below_row hb5 hG6 (Nat.le_refl _) hgw; rw [← HE.out] at hC6)
              | (refine wpList_load_arr _ rfl _ _ rfl gc (by exact rfl) _ (av E) hC6 8 _ tyA8 (sizeA E hEl) ?_)
              | (refine wpList_load_arr _ rfl _ _ rfl ga (by exact rfl) _ (av a) hrow6 8 _ tyA8 (sizeA a HAL.out) ?_))
            go_ret2
            refine ⟨?_, hb6⟩
            rw [HS.out.1, HS.out.2]
            rw [show ((k + L : Nat) : Int) = (k : Int) + z by rw [HZ.out, Int.natCast_add]]
            rfl
          · have hdc : decide (E = a) = false := decide_eq_false hc
            rw [hdc] at heq
            have HN2 : Hid (∀ f, f < k + 1 → clr a f L ≠ a) := by
              show ∀ f, _
              intro f hf
              by_cases e : f = k
              · subst e; rw [← HE.out]; exact hc
              · exact HN.out f (by omega)
            clear hdc hc
            go_wp2_with (first
              | (refine wpList_load_arr _ rfl _ _ rfl ga (by exact rfl) _ (av a) hrow2 8 _ tyA8 (sizeA a HAL.out) ?_)
              | (refine wpList_alloc_arr _ rfl 6 rfl _ rfl _ zeroA8 ?_; intro W4 gc hgc hlc hC hGc; have hrow4 := hrow2.grown0 hGc; have hb4 := below_row0 hb2 hGc (Nat.le_refl _); have hne : ga ≠ gc := (by have := hrow2.lt; omega); have hgw : w.heap.size ≤ gc := (by have := hb2.size; omega))
              | (refine wpList_store_arr _ rfl rfl _ _ _ rfl gc (by exact rfl) (av a) (by exact rfl) _ _ hC (sizeA a HAL.out) (by rw [av_size, av_size, HAL.out]; rfl) (av_one a) ?_; intro W5 hC5 hG5; have hrow5 := hrow4.grown hG5 hne; have hb5 := below_row hb4 hG5 (Nat.le_refl _) hgw)
              | (refine wpList_clear_a8 _ rfl rfl _ rfl gc k L (8 - k) (by exact rfl) a hC5 HAL.out HK8.out HL0.out ?_; intro W6 hC6 hG6; have hrow6 := hrow5.grown hG6 hne; have hb6 := below_row hb5 hG6 (Nat.le_refl _) hgw; rw [← HE.out] at hC6)
              | (refine wpList_load_arr _ rfl _ _ rfl gc (by exact rfl) _ (av E) hC6 8 _ tyA8 (sizeA E hEl) ?_)
              | (refine wpList_load_arr _ rfl _ _ rfl ga (by exact rfl) _ (av a) hrow6 8 _ tyA8 (sizeA a HAL.out) ?_))
            go_roundw
            case rel => exact ⟨k + 1, by go_num, by omega, HN2, hrow6, hb6⟩
            case measure => simp [intOf]; omega
        · have hd2 : decide ((k : Int) < 8 - z + 1) = false := decide_eq_false hlt
          have HTR2 : Hid (Tried a (L - 1)) := by
            refine Lib.hid (tried_next HTR.out (fun f hf => HN.out f ?_) (by have := HL2.out; omega))
            have := HZ.out
            omega
          go_wp2
          go_roundw
          case rel => exact ⟨L - 1, z - 1, by first | rfl | go_num, Lib.hid (by have := HZ.out; have := HL2.out; omega), by omega, by omega, HTR2, hrow2, hb2⟩
          case measure => simp [intOf]; omega
    · have hd : decide (z ≥ 2) = false := decide_eq_false h2
      have HS : Hid (lzS a = 0 ∧ lzE a = 0) := by
        have hL : L = 1 := by have := HZ.out; omega
        have := tried_none HAL.out (hL ▸ HTR.out)
        show _ ∧ _
        unfold lzS lzE
        rw [this, if_pos (by decide), if_pos (by decide)]
        exact ⟨rfl, rfl⟩
      go_wp2
      go_ret2
      refine ⟨?_, hb⟩
      rw [HS.out.1, HS.out.2]
      rfl
end

end Go.Proofs.YtpccpgihldpiiaaGreatDoor
