/-
  The reference's add of layer 20.
-/
import Derived.Test.YtgilpheclmmolaaCsQ
import Derived.Test.YtgilpheclmmolaaRfS
import Derived.Test.YtgilpheclmmolaaRfW
import Derived.Test.YtgilpheclmmolaaRfL
namespace Go.Proofs.Ytgilpheclmmolaa
open Go.RowKit

theorem is_nm (Y : ByteArray) (m : List UInt8) : (Y.toList == m) = decide (ls Y = m) := by
  rw [toList_ls, Bool.eq_iff_iff]
  simp
theorem is_nm2 (Y : ByteArray) (m : List UInt8) : ((bs m).toList == Y.toList) = decide (ls Y = m) := by
  rw [toList_ls, toList_ls, ls_bs, Bool.eq_iff_iff, beq_iff_eq, decide_eq_true_iff]
  exact eq_comm
theorem mem_step {L : List (List UInt8)} {m : Nat} (h : m < L.length) (y : List UInt8) : decide (y ∈ L.take (m + 1)) = (decide (y ∈ L.take m) || decide (y = L[m])) := by
  rw [List.take_succ_eq_append_getElem h, Bool.eq_iff_iff, Bool.or_eq_true, decide_eq_true_iff, decide_eq_true_iff, decide_eq_true_iff, List.mem_append, List.mem_singleton]
theorem addC_known (L : List (List UInt8)) (u s : Bool) (n : List UInt8) : addC ⟨L, u, s⟩ n = ⟨if decide (n ∈ L) = true then L else L ++ [n], u || decide (n = nmU), s || decide (n = nmB)⟩ := by
  unfold addC
  simp
theorem addD_none {c : Cv} {d : List UInt8} (h : nameD d = none) : addD c d = c := by unfold addD; rw [h]
theorem addD_some {c : Cv} {d n : List UInt8} (h : nameD d = some n) : addD c d = addC c n := by unfold addD; rw [h]
theorem addD_len (c : Cv) (d : List UInt8) : (addD c d).names.length ≤ c.names.length + 1 := by
  unfold addD
  cases nameD d with
  | none => simp
  | some n => rw [names_addC]; exact addN_len _ _
def AddPost (N : Nat) (c : Cv) (w : World) (e : Ending) (w' : World) : Prop :=
  ∃ A k, e = .returned (.agg #[.bool c.up, .bool c.bl, .slice A c.names.length k]) ∧ w'.ownsRow N 9 1 (.slice A c.names.length k) c.names.length (wv c.names) ∧ Below N w w'

set_option maxRecDepth 100000 in
set_option maxHeartbeats 4000000 in
theorem refAdd_any (N : Nat) (c : Cv) (A : Option Addr) (k : Nat) (s : ByteArray) (w : World) (hs : s.size ≤ 4096) (hl : c.names.length ≤ 700000000) (hN : N ≤ w.heap.size) (hown : w.ownsRow N 9 1 (.slice A c.names.length k) c.names.length (wv c.names)) :
    Calls Try.prog 18 #[.agg #[.bool c.up, .bool c.bl, .slice A c.names.length k], .string s] w (AddPost N (addV c (ls s)) w) := by
  have c1 := fun W => refSplit_any s 44 W (by omega)
  have hpl : (splitL 44 (ls s)).length ≤ 4097 := by
    have : (splitL 44 (ls s)).length ≤ (ls s).length + 1 := splitG_len 44 (ls s) []
    rw [ls_length] at this
    omega
  have hpp : ∀ p ∈ splitL 44 (ls s), p.length ≤ 4096 := fun p hp => by
    have := splitG_part 44 (ls s) [] p hp
    rw [ls_length] at this
    simp at this
    omega
  have HV : Hid (addV c (ls s) = (splitL 44 (ls s)).foldl addP c) := Lib.hid rfl
  generalize addV c (ls s) = cE at *
  generalize splitL 44 (ls s) = ps at *
  go_enter Try.func18, Try.ntmps18
  go_wp2_with (first
    | (refine wpList_box_arr _ rfl 2 rfl _ _ rfl _ #[.bool c.up, .bool c.bl, .slice A c.names.length k] rfl rfl ?_; intro W2 b2 hp2 hq2 hR2 hG2)
    | (refine wpList_alloc_arr _ rfl 4 rfl _ rfl #[.bool false, .bool false, .slice none 0 0] zeroCv ?_; intro W4 b4 hp4 hq4 hR4 hG4))
  have hR : RAdd N b2 b4 w c.names c.up c.bl A k W4 := by
    have g2 : Below w.heap.size w W2 := (Below.refl _ w).grown hG2 (Nat.le_refl _) (fun j e => by cases e)
    have g4 : Below W2.heap.size W2 W4 := (Below.refl _ W2).grown hG4 (Nat.le_refl _) (fun j e => by cases e)
    have hz2 := g2.size
    exact ⟨(g4.block _ hq2).trans hR2, (hown.kept hG2 (by cases hv : (Value.slice A c.names.length k).ownBlock with | none => exact .inl rfl | some g => exact .inr (by simp))).kept hG4 (by cases hv : (Value.slice A c.names.length k).ownBlock with | none => exact .inl rfl | some g => exact .inr (by simp)), hR4, (g2.mono hN).trans (g4.mono (by omega)), hp2, by omega, by omega, hN⟩
  clear hp2 hq2 hR2 hG2 hp4 hq4 hR4 hG4 hown
  refine (c1 _).mono ?_
  rintro e w1 ⟨v1, n1, rfl, ho1, hb1⟩
  have hout1 : ∀ g, v1.ownBlock = some g → ¬ ownR b2 (.slice A c.names.length k) g := fun g hg hc => by
    have := (own_at ho1 hg).1
    have := hR.bound g hc
    omega
  replace hR := hR.below hb1
  obtain ⟨A1, k1, rfl, hh1, hk1⟩ := Has.of_own ho1
  have hn1 : n1 = ps.length := by have := hh1.1; rw [wv_length] at this; omega
  subst hn1
  have hC1 : ∀ b, A1.map (·.block) = some b → ¬ ownR b2 (.slice A c.names.length k) b := fun b hb => hout1 b (by cases A1 <;> simp_all [Value.ownBlock])
  clear c1 ho1 hb1 hout1
  go_wp2
  go_loopw [6] (fun i wr => ∃ (ip : Nat) (Ai : Option Addr) (ki : Nat) (ci : Cv), i = .int .i64 ip ∧ ip ≤ ps.length ∧ Hid (ci = (ps.take ip).foldl addP c) ∧ ci.names.length ≤ c.names.length + ip * 4097 ∧ RAdd N b2 b4 w ci.names ci.up ci.bl Ai ki wr ∧ Grow (ownR b2 (.slice A c.names.length k)) (ownR b2 (.slice Ai ci.names.length ki)) w1 wr) (fun i _ => ps.length - (intOf i).toNat)
  case atStart => exact ⟨0, A, k, c, rfl, Nat.zero_le _, Lib.hid (by simp), by omega, hR, Grow.refl _ _⟩
  case round =>
    clear hR
    obtain ⟨ip, Ai, ki, ci, rfl, hip, HCI, hli, hRi, hGi⟩ := hrel
    by_cases hlt : ip < ps.length
    · have hhi := has_grow hGi hh1 (Nat.le_refl _) hC1
      obtain ⟨bp, op, rfl, hcp⟩ := str_cell hhi ip hlt
      rw [List.getD_eq_getElem?_getD, List.getElem?_eq_getElem hlt, Option.getD_some] at hcp
      have hpz := hpp _ (List.getElem_mem hlt)
      have HSU : Hid ((ps.take (ip + 1)).foldl addP c = (splitL 59 ps[ip]).foldl addD ci) := by
        refine Lib.hid ?_
        rw [List.take_succ_eq_append_getElem hlt, List.foldl_append, ← HCI.out]
        rfl
      have hdl : (splitL 59 ps[ip]).length ≤ 4097 := by
        have : (splitL 59 ps[ip]).length ≤ ps[ip].length + 1 := splitG_len 59 ps[ip] []
        omega
      have hdd : ∀ d ∈ splitL 59 ps[ip], d.length ≤ 4096 := fun d hd => by
        have := splitG_part 59 ps[ip] [] d hd
        simp at this
        omega
      have c2 := fun W => refSplit_any (bs ps[ip]) 59 W (by rw [bs_size]; omega)
      rw [ls_bs] at c2
      generalize splitL 59 ps[ip] = ds at *
      generalize bs ps[ip] = P at *
      clear hhi
      go_wp2_with fail
      refine (c2 _).mono ?_
      rintro e w2 ⟨v2, n2, rfl, ho2, hb2⟩
      have hout2 : ∀ g, v2.ownBlock = some g → ¬ ownR b2 (.slice Ai ci.names.length ki) g := fun g hg hc => by
        have := (own_at ho2 hg).1
        have := hRi.bound g hc
        omega
      have hRj := hRi.below hb2
      have hGj := hGi.trans (grow_below (ownR b2 (.slice Ai ci.names.length ki)) hb2)
      obtain ⟨A2, k2, rfl, hh2, hk2⟩ := Has.of_own ho2
      have hn2 : n2 = ds.length := by have := hh2.1; rw [wv_length] at this; omega
      subst hn2
      have hC2 : ∀ b, A2.map (·.block) = some b → ¬ ownR b2 (.slice Ai ci.names.length ki) b := fun b hb => hout2 b (by cases A2 <;> simp_all [Value.ownBlock])
      clear c2 ho2 hb2 hout2 hcp hRi hGi
      go_wp2
      go_loopw [8] (fun j wr2 => ∃ (jp : Nat) (Aj : Option Addr) (kj : Nat) (L : List (List UInt8)) (u sb : Bool), j = .int .i64 jp ∧ jp ≤ ds.length ∧ Hid ((⟨L, u, sb⟩ : Cv) = (ds.take jp).foldl addD ci) ∧ L.length ≤ ci.names.length + jp ∧ RAdd N b2 b4 w L u sb Aj kj wr2 ∧ Grow (ownR b2 (.slice Ai ci.names.length ki)) (ownR b2 (.slice Aj L.length kj)) w2 wr2) (fun j _ => ds.length - (intOf j).toNat)
      case atStart => exact ⟨0, Ai, ki, ci.names, ci.up, ci.bl, rfl, Nat.zero_le _, Lib.hid rfl, by omega, hRj, Grow.refl _ _⟩
      case round =>
        clear hRj
        rename_i wrA
        obtain ⟨jp, Aj, kj, L, u, sb, rfl, hjp, HCJ, hlj, hRj, hGk⟩ := hrel
        by_cases hlt2 : jp < ds.length
        · have hhj := has_grow hGk hh2 (Nat.le_refl _) hC2
          obtain ⟨bd, od, rfl, hcd⟩ := str_cell hhj jp hlt2
          rw [List.getD_eq_getElem?_getD, List.getElem?_eq_getElem hlt2, Option.getD_some] at hcd
          have hdz := hdd _ (List.getElem_mem hlt2)
          have HSJ : Hid ((ds.take (jp + 1)).foldl addD ci = addD ⟨L, u, sb⟩ ds[jp]) := by
            refine Lib.hid ?_
            rw [List.take_succ_eq_append_getElem hlt2, List.foldl_append, ← HCJ.out]
            rfl
          have cw := fun W => refWords_any (bs ds[jp]) W (by rw [bs_size]; omega)
          unfold WordsPost at cw
          rw [ls_bs] at cw
          have hLl : L.length ≤ 900000000 := by
            have : ip * 4097 ≤ 4097 * 4097 := Nat.mul_le_mul_right _ (by omega)
            omega
          generalize ds[jp] = d at *
          generalize bs d = X at *
          clear hhj
          go_wp2_with fail
          refine (cw _).mono ?_
          rintro e w3 ⟨v3, n3, rfl, ho3, hb3⟩
          have hR3 := hRj.below hb3
          have hG3 := hGk.trans (grow_below (ownR b2 (.slice Aj L.length kj)) hb3)
          obtain ⟨A3, k3, rfl, hh3, hk3⟩ := Has.of_own ho3
          have hn3 : n3 = (wordsL d).length := by have := hh3.1; rw [wv_length] at this; omega
          clear cw ho3 hb3 hRj hGk hcd
          have hlt2' : jp + 1 ≤ ds.length := hlt2
          cases hw : wordsL d with
          | nil =>
            have HN : Hid ((⟨L, u, sb⟩ : Cv) = (ds.take (jp + 1)).foldl addD ci) := Lib.hid (by rw [HSJ.out, addD_none (name_none hw)])
            rw [hw] at hn3
            simp at hn3
            subst hn3
            clear hw hh3
            go_wp2
            go_roundw
            case rel => exact ⟨jp + 1, Aj, kj, L, u, sb, by go_num, hlt2', HN, by omega, hR3, hG3⟩
            case measure => simp [intOf]; omega
          | cons w0 r =>
            have hshort := word_short (l := d) (x := w0) (by rw [hw]; simp)
            have hname := name_some hw
            rw [hw] at hn3 hh3
            obtain ⟨b3, o3, rfl, hc3⟩ := str_cell hh3 0 (by rw [hn3]; simp)
            rw [List.getD_cons_zero, Nat.add_zero] at hc3
            simp only [List.length_cons] at hn3
            generalize r.length = m3 at *
            subst hn3
            have hwz : (bs w0).size ≤ 1000000000 := by rw [bs_size]; omega
            have cl := fun W => refLower_any (bs w0) W hwz
            have hY : ls (lowS (bs w0)) = lowL w0 := by rw [lowS, ls_bs, ls_bs]
            rw [← hY] at hname
            generalize bs w0 = X0 at *
            generalize lowS X0 = Y at *
            have HNM := Lib.hid hname
            clear hw hh3 hname hY hshort
            go_wp2_with fail
            refine (cl _).mono ?_
            rintro e w4 ⟨rfl, hb4⟩
            have hR4 := hR3.below hb4
            have hG4 := hG3.trans (grow_below (ownR b2 (.slice Aj L.length kj)) hb4)
            have c42 := (RowCv.cells hR4.row2).2.2
            obtain ⟨A4, k4, e4, hh4, hk4⟩ := Has.of_own hR4.own
            cases e4
            clear hc3 hb4 hR3 hG3 cl
            go_wp2
            go_loop [11, 12] (fun f m => ∃ (mp : Nat) (b : Bool), m = .int .i64 mp ∧ mp ≤ L.length ∧ f = .bool b ∧ Hid (b = decide (ls Y ∈ L.take mp))) (fun _ m => L.length - (intOf m).toNat)
            case atStart => exact ⟨0, false, rfl, Nat.zero_le _, rfl, Lib.hid (by simp)⟩
            case round =>
              obtain ⟨mp, b, rfl, hmp, rfl, HB⟩ := hrel
              by_cases hlt4 : mp < L.length
              · obtain ⟨bn, on, rfl, hcn⟩ := str_cell hh4 mp hlt4
                rw [List.getD_eq_getElem?_getD, List.getElem?_eq_getElem hlt4, Option.getD_some] at hcn
                have hq : ((bs L[mp]).toList == Y.toList) = decide (ls Y = L[mp]) := is_nm2 Y L[mp]
                have HQ : Hid (decide (ls Y ∈ L.take (mp + 1)) = (b || decide (ls Y = L[mp]))) := by
                  refine Lib.hid ?_
                  rw [HB.out]
                  exact mem_step hlt4 (ls Y)
                generalize decide (ls Y = L[mp]) = q at *
                cases b with
                | true =>
                  go_wp2
                  go_round
                  case rel => exact ⟨mp + 1, true, by go_num, by omega, rfl, Lib.hid (by rw [HQ.out]; rfl)⟩
                  case measure => simp [intOf]; omega
                | false =>
                  go_wp2
                  go_round
                  case rel => exact ⟨mp + 1, q, by go_num, by omega, rfl, Lib.hid (by rw [HQ.out]; rfl)⟩
                  case measure => simp [intOf]; omega
              · obtain rfl : mp = L.length := by omega
                have HB2 : Hid (b = decide (ls Y ∈ L)) := Lib.hid (by rw [HB.out, List.take_length])
                have hU : (Y.toList == [117, 112, 103, 114, 97, 100, 101, 45, 105, 110, 115, 101, 99, 117, 114, 101, 45, 114, 101, 113, 117, 101, 115, 116, 115]) = decide (ls Y = nmU) := is_nm Y nmU
                have hV : (Y.toList == [98, 108, 111, 99, 107, 45, 97, 108, 108, 45, 109, 105, 120, 101, 100, 45, 99, 111, 110, 116, 101, 110, 116]) = decide (ls Y = nmB) := is_nm Y nmB
                have HAD : Hid (addD ⟨L, u, sb⟩ d = ⟨if b = true then L else L ++ [ls Y], u || decide (ls Y = nmU), sb || decide (ls Y = nmB)⟩) := by
                  refine Lib.hid ?_
                  rw [addD_some HNM.out, HB2.out]
                  exact addC_known L u sb (ls Y)
                generalize decide (ls Y = nmU) = qu at *
                generalize decide (ls Y = nmB) = qb at *
                clear HB HB2 hh4 HNM
                have c40 := (RowCv.cells hR4.row2).1
                have c41 := (RowCv.cells hR4.row2).2.1
                obtain ⟨i0, hi, hz0, hy1, hz2⟩ := info_parts infoStr
                cases b with
                | true =>
                  cases u <;> cases sb
                  all_goals
                    go_wp2_with (first
                      | (refine wpList_store_cv0 rfl rfl _ _ rfl b2 (by exact rfl) _ (by exact rfl) _ _ _ _ _ hR4.row2 ?_; intro W5 hr5 hG5; obtain ⟨hR5, hg5⟩ := hR4.set hr5 hG5; have c51 := (RowCv.cells hR5.row2).2.1)
                      | (refine wpList_store_cv1 rfl rfl _ _ rfl b2 (by exact rfl) _ (by exact rfl) _ _ _ _ _ hR5.row2 ?_; intro W6 hr6 hG6; obtain ⟨hR6, hg6⟩ := hR5.set hr6 hG6))
                    have hG6' := hG4.trans (hg5.trans hg6)
                    go_roundw
                    case rel => exact ⟨jp + 1, _, _, _, _, _, by go_num, hlt2', Lib.hid (by rw [HSJ.out, HAD.out]; rfl), by omega, hR6, hG6'⟩
                    case measure => simp [intOf]; omega
                | false =>
                  have hz4 := hR4.bel.size
                  cases u <;> cases sb
                  all_goals
                    go_wp2_with (first
                      | (at_builtin; refine wpList_append_own_at _ rfl _ _ 22 rfl N 9 i0 (.string ByteArray.empty) 1 16 tyStrs hi hz0 hy1 hz2 rfl (by decide) _ _ _ rfl (hR4.own.alloc _) ⟨w4.heap.size, 0, none⟩ 1 1 [.string Y] rfl rfl (cell_one_new _ _ _) (by simp [Value.oneCell']) (by unfold maxLen; omega) (by omega) (by simp; omega) ?_; intro v' W5 hown' hgrow _ hat; obtain ⟨g', cap', rfl⟩ := ownsRow_succ hown'; obtain ⟨p1, p2⟩ := hR4.app (x := ls Y) (by rw [bs_ls]; exact hown') hgrow hat)
                      | (refine wpList_store_cv2 rfl rfl _ _ rfl b2 (by exact rfl) _ _ _ (by exact rfl) _ _ _ _ _ p1 ?_; intro W6 hr6 hG6; obtain ⟨hR6, hg6⟩ := p2 _ _ _ rfl hr6 hG6; have c60 := (RowCv.cells hR6.row2).1; have c61 := (RowCv.cells hR6.row2).2.1)
                      | (refine wpList_store_cv0 rfl rfl _ _ rfl b2 (by exact rfl) _ (by exact rfl) _ _ _ _ _ hR6.row2 ?_; intro W7 hr7 hG7; obtain ⟨hR7, hg7⟩ := hR6.set hr7 hG7; have c71 := (RowCv.cells hR7.row2).2.1)
                      | (refine wpList_store_cv1 rfl rfl _ _ rfl b2 (by exact rfl) _ (by exact rfl) _ _ _ _ _ hR7.row2 ?_; intro W8 hr8 hG8; obtain ⟨hR8, hg8⟩ := hR7.set hr8 hG8))
                    have hG8' := hG4.trans (hg6.trans (hg7.trans hg8))
                    go_roundw
                    case rel => exact ⟨jp + 1, _, _, _, _, _, by go_num, hlt2', Lib.hid (by rw [HSJ.out, HAD.out]; rfl), by simp; omega, hR8, hG8'⟩
                    case measure => simp [intOf]; omega
        · obtain rfl : jp = ds.length := by omega
          have HN : Hid ((ps.take (ip + 1)).foldl addP c = ⟨L, u, sb⟩) := Lib.hid (by rw [HSU.out, HCJ.out, List.take_length])
          have hG9 := hGj.trans hGk
          go_wp2
          go_roundw
          case rel => exact ⟨ip + 1, Aj, kj, ⟨L, u, sb⟩, by go_num, by omega, Lib.hid HN.out.symm, by show L.length ≤ _; omega, hRj, hG9⟩
          case measure => simp [intOf]; omega
    · obtain rfl : ip = ps.length := by omega
      have HE : Hid (cE = ci) := Lib.hid (by rw [HV.out, HCI.out, List.take_length])
      clear HCI hh1 hC1
      go_wp2_with (first
        | (refine wpList_load_cv (by rfl) _ rfl b2 (by exact rfl) _ _ _ _ _ hRi.row2 ?_)
        | (refine wpList_store_cv rfl rfl _ _ rfl b4 (by exact rfl) ci.up ci.bl Ai ci.names.length ki (by exact rfl) _ _ _ _ _ hRi.row4 ?_; intro W9 hr9 hG9))
      refine ret_cv1 4 rfl rfl hr9 rfl ?_
      rw [HE.out]
      exact ⟨_, _, rfl, hRi.own.kept hG9 (.inr fun e => hRi.out4 e.symm), hRi.bel.grown hG9 (Nat.le_trans hN hRi.bel.size) (fun j e => by cases e; exact Nat.le_trans hN hRi.h4)⟩

end Go.Proofs.Ytgilpheclmmolaa
