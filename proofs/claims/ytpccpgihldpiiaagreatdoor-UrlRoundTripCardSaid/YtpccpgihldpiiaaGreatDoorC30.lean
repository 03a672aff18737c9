/-
textOf: the text of a URL.
parseSpecial: a URL of a special scheme, behind its colon.
Contract of Lower of package ascii.
-/
import Derived.Test.YtpccpgihldpiiaaGreatDoorC28
import Derived.Test.YtpccpgihldpiiaaGreatDoorShelfN
import Derived.Lib.ItoaLen
import Derived.Test.YtpccpgihldpiiaaGreatDoorC07
import Derived.Test.YtpccpgihldpiiaaGreatDoorC01
namespace Go.Proofs.YtpccpgihldpiiaaGreatDoor
section
open Go.RowKit Go.Shelf

theorem itoaX_any (z : Int) (h0 : -9223372036854775808 ≤ z) (h1 : z ≤ 9223372036854775807) (w : World) (hp : Pow w) :
    Calls Tryz.prog 109 #[.int .i64 z] w fun e w' => e = .returned (.string (bs (Lib.itoa z))) ∧ Below w.heap.size w w' := by
  refine (Any.strconv_Itoa Tryz.laysM171 z h0 h1 w hp).mono ?_
  rintro e w' ⟨rfl, k, os, rfl⟩
  refine ⟨rfl, ⟨rfl, rfl, rfl, ?_, fun i hi => ?_⟩⟩
  · show w.heap.size ≤ (w.heap ++ os).size
    simp
  · show (w.heap ++ os)[i]? = w.heap[i]?
    exact Array.getElem?_append_left hi
def portX (p : Int) : List UInt8 := if p = -1 then [] else 58 :: Lib.itoa p
/-- The text, of whatever port. -/
def textX (u : Uv) : List UInt8 := if specL u.scheme = true then u.scheme ++ 58 :: 47 :: 47 :: (userT u.user ++ (fmtH u.host ++ portX u.port) ++ u.rest) else u.scheme ++ 58 :: u.rest
theorem textX_eq {u : Uv} (h : -1 ≤ u.port) : textX u = textU u := by
  have e : portX u.port = portT u.port := by
    unfold portX portT
    by_cases hp : u.port = -1
    · rw [if_pos hp, if_pos hp]
    · rw [if_neg hp, if_neg hp, Lib.itoa, if_neg (by omega)]
  unfold textX textU
  rw [e]
theorem ls1_64 : ls ⟨#[64]⟩ = [64] := rfl
theorem ls1_58 : ls ⟨#[58]⟩ = [58] := rfl
theorem ls2_47 : ls ⟨#[47, 47]⟩ = [47, 47] := rfl

set_option maxHeartbeats 1000000 in
theorem text_any (hF : HoFmt 108) (u : Uv) (hw : u.host.Wf) (hn : u.host.name.length ≤ 1000000000) (hs1 : u.scheme.length ≤ 1000000000) (hs2 : u.user.length ≤ 1000000000) (hs3 : u.rest.length ≤ 1000000000) (h0 : -9223372036854775808 ≤ u.port) (h1 : u.port ≤ 9223372036854775807) (w : World) (hP : Pow6 w) :
    Calls Tryz.prog 67 #[.agg u.cells] w fun e w' => e = .returned (.string (bs (textX u))) ∧ Below w.heap.size w w' := by
  have cF := fun W hW => hF u.host W hw hn hW
  unfold Hv.val at cF
  have hC := uc_facts u
  have hH : u.host.cells.size = 11 := rfl
  obtain ⟨C, hCe⟩ : ∃ C, C = u.cells := ⟨_, rfl⟩
  obtain ⟨H, hHe⟩ : ∃ H, H = u.host.cells := ⟨_, rfl⟩
  rw [← hCe, ← hHe] at hC
  rw [← hHe] at cF hH
  rw [← hCe]
  have cs := fun W => special_any (bs u.scheme) W
  rw [ls_bs] at cs
  obtain ⟨T, hT⟩ : ∃ T, T = bs (textX u) := ⟨_, rfl⟩
  rw [← hT]
  by_cases hq : specL u.scheme = true
  · rw [hq] at cs
    have zS : (bs u.scheme).size ≤ 1000000000 := by rw [bs_size]; exact hs1
    have zR : (bs u.rest).size ≤ 1000000000 := by rw [bs_size]; exact hs3
    have zU : (bs u.user).size ≤ 1000000000 := by rw [bs_size]; exact hs2
    have zF : (bs (fmtH u.host)).size ≤ 1000000084 := by rw [bs_size]; have := fmtH_len hw; omega
    have zP : (bs (Lib.itoa u.port)).size ≤ 21 := by rw [bs_size]; exact Lib.itoa_length_le _ h0 h1
    have ci := fun W hW => itoaX_any u.port h0 h1 W hW
    clear h0 h1
    by_cases hu : u.user = []
    · have hue : (bs u.user).toList.isEmpty = true := by rw [hu, Lib.toList_data]; rfl
      by_cases hp : u.port = -1
      · have hpe : (u.port != -1) = false := by rw [hp]; rfl
        have HT : Hid (T = bs u.scheme ++ ⟨#[58]⟩ ++ ⟨#[47, 47]⟩ ++ bs (fmtH u.host) ++ bs u.rest) := by
          refine Lib.hid (hT.trans ?_)
          unfold textX portX userT
          rw [if_pos hq, if_pos hu, if_pos hp]
          apply ls_inj
          simp only [ls_bs, ls_append, ls1_58, ls2_47]
          simp
        clear hT hu hp
        generalize bs u.scheme = S at *
        generalize bs u.rest = R at *
        generalize bs u.user = U at *
        generalize bs u.host.name = N at *
        generalize bs (fmtH u.host) = F at *
        generalize u.port = p at *
        generalize bs (Lib.itoa p) = P at *
        clear hq hCe hHe hs1 hs2 hs3 hn hw
        go_enter Tryz.func67, Tryz.ntmps67
        go_wp2_with (first
          | (refine wpList_box_arr _ rfl 1 rfl _ _ rfl _ C (by exact rfl) (by exact rfl) ?_; intro W1 g1 hg1 hl1 hR1 hG1; have hbw := below_row0 (Below.refl w.heap.size w) hG1 (Nat.le_refl _)
             obtain ⟨e0, e1, e3, e13, e14⟩ := hC.cell hR1)
          | (go_at_call 35; refine (cs _).mono ?_; rintro e w5 ⟨rfl, rfl⟩)
          | refine wpList_load_uhost rfl _ rfl g1 (by exact rfl) C hR1 H hC.hh hH ?_
          | (go_at_call 108; refine (cF _ (pow6_below hP hbw)).mono ?_; rintro e w6 ⟨rfl, hb6⟩
             replace hR1 : RowU w6 g1 C := Row.below hR1 hb6 (Row.lt hR1)
             replace hbw := hbw.trans (hb6.mono hbw.size)
             clear hb6 e0 e1 e3 e13 e14
             obtain ⟨e0, e1, e3, e13, e14⟩ := hC.cell hR1)
          | (go_at_call 109; refine (ci _ (pow6_below hP hbw).1).mono ?_; rintro e w6 ⟨rfl, hb6⟩
             replace hR1 : RowU w6 g1 C := Row.below hR1 hb6 (Row.lt hR1)
             replace hbw := hbw.trans (hb6.mono hbw.size)
             clear hb6 e0 e1 e3 e13 e14
             obtain ⟨e0, e1, e3, e13, e14⟩ := hC.cell hR1))
        go_ret
        exact ⟨by rw [HT.out]; rfl, hbw⟩
      · have hpe : (u.port != -1) = true := by rw [bne, beq_eq_false_iff_ne.2 hp]; rfl
        have HT : Hid (T = bs u.scheme ++ ⟨#[58]⟩ ++ ⟨#[47, 47]⟩ ++ bs (fmtH u.host) ++ (⟨#[58]⟩ ++ bs (Lib.itoa u.port)) ++ bs u.rest) := by
          refine Lib.hid (hT.trans ?_)
          unfold textX portX userT
          rw [if_pos hq, if_pos hu, if_neg hp]
          apply ls_inj
          simp only [ls_bs, ls_append, ls1_58, ls2_47]
          simp
        clear hT hu hp
        generalize bs u.scheme = S at *
        generalize bs u.rest = R at *
        generalize bs u.user = U at *
        generalize bs u.host.name = N at *
        generalize bs (fmtH u.host) = F at *
        generalize u.port = p at *
        generalize bs (Lib.itoa p) = P at *
        clear hq hCe hHe hs1 hs2 hs3 hn hw
        go_enter Tryz.func67, Tryz.ntmps67
        go_wp2_with (first
          | (refine wpList_box_arr _ rfl 1 rfl _ _ rfl _ C (by exact rfl) (by exact rfl) ?_; intro W1 g1 hg1 hl1 hR1 hG1; have hbw := below_row0 (Below.refl w.heap.size w) hG1 (Nat.le_refl _)
             obtain ⟨e0, e1, e3, e13, e14⟩ := hC.cell hR1)
          | (go_at_call 35; refine (cs _).mono ?_; rintro e w5 ⟨rfl, rfl⟩)
          | refine wpList_load_uhost rfl _ rfl g1 (by exact rfl) C hR1 H hC.hh hH ?_
          | (go_at_call 108; refine (cF _ (pow6_below hP hbw)).mono ?_; rintro e w6 ⟨rfl, hb6⟩
             replace hR1 : RowU w6 g1 C := Row.below hR1 hb6 (Row.lt hR1)
             replace hbw := hbw.trans (hb6.mono hbw.size)
             clear hb6 e0 e1 e3 e13 e14
             obtain ⟨e0, e1, e3, e13, e14⟩ := hC.cell hR1)
          | (go_at_call 109; refine (ci _ (pow6_below hP hbw).1).mono ?_; rintro e w6 ⟨rfl, hb6⟩
             replace hR1 : RowU w6 g1 C := Row.below hR1 hb6 (Row.lt hR1)
             replace hbw := hbw.trans (hb6.mono hbw.size)
             clear hb6 e0 e1 e3 e13 e14
             obtain ⟨e0, e1, e3, e13, e14⟩ := hC.cell hR1))
        go_ret
        exact ⟨by rw [HT.out]; rfl, hbw⟩
    · have hue : (bs u.user).toList.isEmpty = false := by
        rw [Lib.toList_data]
        show u.user.isEmpty = false
        cases h : u.user with
        | nil => exact absurd h hu
        | cons _ _ => rfl
      by_cases hp : u.port = -1
      · have hpe : (u.port != -1) = false := by rw [hp]; rfl
        have HT : Hid (T = bs u.scheme ++ ⟨#[58]⟩ ++ ⟨#[47, 47]⟩ ++ (bs u.user ++ ⟨#[64]⟩) ++ bs (fmtH u.host) ++ bs u.rest) := by
          refine Lib.hid (hT.trans ?_)
          unfold textX portX userT
          rw [if_pos hq, if_neg hu, if_pos hp]
          apply ls_inj
          simp only [ls_bs, ls_append, ls1_64, ls1_58, ls2_47]
          simp
        clear hT hu hp
        generalize bs u.scheme = S at *
        generalize bs u.rest = R at *
        generalize bs u.user = U at *
        generalize bs u.host.name = N at *
        generalize bs (fmtH u.host) = F at *
        generalize u.port = p at *
        generalize bs (Lib.itoa p) = P at *
        clear hq hCe hHe hs1 hs2 hs3 hn hw
        go_enter Tryz.func67, Tryz.ntmps67
        go_wp2_with (first
          | (refine wpList_box_arr _ rfl 1 rfl _ _ rfl _ C (by exact rfl) (by exact rfl) ?_; intro W1 g1 hg1 hl1 hR1 hG1; have hbw := below_row0 (Below.refl w.heap.size w) hG1 (Nat.le_refl _)
             obtain ⟨e0, e1, e3, e13, e14⟩ := hC.cell hR1)
          | (go_at_call 35; refine (cs _).mono ?_; rintro e w5 ⟨rfl, rfl⟩)
          | refine wpList_load_uhost rfl _ rfl g1 (by exact rfl) C hR1 H hC.hh hH ?_
          | (go_at_call 108; refine (cF _ (pow6_below hP hbw)).mono ?_; rintro e w6 ⟨rfl, hb6⟩
             replace hR1 : RowU w6 g1 C := Row.below hR1 hb6 (Row.lt hR1)
             replace hbw := hbw.trans (hb6.mono hbw.size)
             clear hb6 e0 e1 e3 e13 e14
             obtain ⟨e0, e1, e3, e13, e14⟩ := hC.cell hR1)
          | (go_at_call 109; refine (ci _ (pow6_below hP hbw).1).mono ?_; rintro e w6 ⟨rfl, hb6⟩
             replace hR1 : RowU w6 g1 C := Row.below hR1 hb6 (Row.lt hR1)
             replace hbw := hbw.trans (hb6.mono hbw.size)
             clear hb6 e0 e1 e3 e13 e14
             obtain ⟨e0, e1, e3, e13, e14⟩ := hC.cell hR1))
        go_ret
        exact ⟨by rw [HT.out]; rfl, hbw⟩
      · have hpe : (u.port != -1) = true := by rw [bne, beq_eq_false_iff_ne.2 hp]; rfl
        have HT : Hid (T = bs u.scheme ++ ⟨#[58]⟩ ++ ⟨#[47, 47]⟩ ++ (bs u.user ++ ⟨#[64]⟩) ++ bs (fmtH u.host) ++ (⟨#[58]⟩ ++ bs (Lib.itoa u.port)) ++ bs u.rest) := by
          refine Lib.hid (hT.trans ?_)
          unfold textX portX userT
          rw [if_pos hq, if_neg hu, if_neg hp]
          apply ls_inj
          simp only [ls_bs, ls_append, ls1_64, ls1_58, ls2_47]
          simp
        clear hT hu hp
        generalize bs u.scheme = S at *
        generalize bs u.rest = R at *
        generalize bs u.user = U at *
        generalize bs u.host.name = N at *
        generalize bs (fmtH u.host) = F at *
        generalize u.port = p at *
        generalize bs (Lib.itoa p) = P at *
        clear hq hCe hHe hs1 hs2 hs3 hn hw
        go_enter Tryz.func67, Tryz.ntmps67
        go_wp2_with (first
          | (refine wpList_box_arr _ rfl 1 rfl _ _ rfl _ C (by exact rfl) (by exact rfl) ?_; intro W1 g1 hg1 hl1 hR1 hG1; have hbw := below_row0 (Below.refl w.heap.size w) hG1 (Nat.le_refl _)
             obtain ⟨e0, e1, e3, e13, e14⟩ := hC.cell hR1)
          | (go_at_call 35; refine (cs _).mono ?_; rintro e w5 ⟨rfl, rfl⟩)
          | refine wpList_load_uhost rfl _ rfl g1 (by exact rfl) C hR1 H hC.hh hH ?_
          | (go_at_call 108; refine (cF _ (pow6_below hP hbw)).mono ?_; rintro e w6 ⟨rfl, hb6⟩
             replace hR1 : RowU w6 g1 C := Row.below hR1 hb6 (Row.lt hR1)
             replace hbw := hbw.trans (hb6.mono hbw.size)
             clear hb6 e0 e1 e3 e13 e14
             obtain ⟨e0, e1, e3, e13, e14⟩ := hC.cell hR1)
          | (go_at_call 109; refine (ci _ (pow6_below hP hbw).1).mono ?_; rintro e w6 ⟨rfl, hb6⟩
             replace hR1 : RowU w6 g1 C := Row.below hR1 hb6 (Row.lt hR1)
             replace hbw := hbw.trans (hb6.mono hbw.size)
             clear hb6 e0 e1 e3 e13 e14
             obtain ⟨e0, e1, e3, e13, e14⟩ := hC.cell hR1))
        go_ret
        exact ⟨by rw [HT.out]; rfl, hbw⟩
  · have hq' : specL u.scheme = false := by simpa using hq
    rw [hq'] at cs
    have HT : Hid (T = bs u.scheme ++ ⟨#[58]⟩ ++ bs u.rest) := by
      refine Lib.hid (hT.trans ?_)
      unfold textX
      rw [if_neg hq]
      apply ls_inj
      rw [ls_bs, ls_append, ls_append, ls_bs, ls_bs, show ls ⟨#[58]⟩ = [58] from rfl]
      simp
    have zS : (bs u.scheme).size ≤ 1000000000 := by rw [bs_size]; exact hs1
    have zR : (bs u.rest).size ≤ 1000000000 := by rw [bs_size]; exact hs3
    generalize bs u.scheme = S at *
    generalize bs u.rest = R at *
    generalize bs u.user = U at *
    generalize bs u.host.name = N at *
    clear hT hq hq' hCe hHe cF hs1 hs2 hs3 hn hw
    go_enter Tryz.func67, Tryz.ntmps67
    go_wp2_with (first
      | (refine wpList_box_arr _ rfl 1 rfl _ _ rfl _ C (by exact rfl) (by exact rfl) ?_; intro W1 g1 hg1 hl1 hR1 hG1; have hbw := below_row0 (Below.refl w.heap.size w) hG1 (Nat.le_refl _)
         obtain ⟨e0, e1, e3, e13, e14⟩ := hC.cell hR1)
      | (go_at_call 35; refine (cs _).mono ?_; rintro e w5 ⟨rfl, rfl⟩))
    go_ret
    exact ⟨by rw [HT.out]; rfl, hbw⟩
end

section
open Go.RowKit Go.Shelf

/-- What the walks ask of the world: the library's tables and errors. -/
def Uw (w : World) : Prop := Hw w ∧ RngE w
theorem uw_below {w w' : World} (h : Uw w) (hb : Below w.heap.size w w') : Uw w' := ⟨hw_below h.1 hb, rng_below h.2 hb⟩
/-- What parsing a URL answers. -/
def UrlPost (w : World) (q : Nat × Uv) (e : Ending) (w' : World) : Prop := e = .returned (.tuple #[.agg q.2.cells, .int .i64 (q.1 : Nat)]) ∧ Below w.heap.size w w'

theorem cpre2_any (s : ByteArray) (w : World) : Calls Tryz.prog 44 #[.string s, .string ⟨#[47, 47]⟩] w fun e w' =>
    e = .returned (.tuple #[.string (if (ls s).take 2 = [47, 47] then bs ((ls s).drop 2) else s), .bool (decide ((ls s).take 2 = [47, 47]))]) ∧ w' = w := by
  have h := Any.strings_CutPrefix Tryz.lays103 s ⟨#[47, 47]⟩ w
  have e : Lib.hasPrefix s.data.toList (⟨#[47, 47]⟩ : ByteArray).data.toList = decide ((ls s).take 2 = [47, 47]) := by
    show ([47, 47] : List UInt8).isPrefixOf (ls s) = _
    rw [Bool.eq_iff_iff, List.isPrefixOf_iff_prefix, decide_eq_true_iff, List.prefix_iff_eq_take]
    exact eq_comm
  unfold Lib.trimPrefix at h
  rw [e] at h
  refine h.mono ?_
  rintro r w' ⟨rfl, rfl⟩
  refine ⟨?_, rfl⟩
  by_cases h : (ls s).take 2 = [47, 47]
  · rw [decide_eq_true h, if_pos rfl, if_pos h]
    rfl
  · rw [decide_eq_false h, if_neg (by simp), if_neg h]
theorem bef_len (p : UInt8 → Bool) (l : List UInt8) : (befL p l).length ≤ l.length ∧ (fromL p l).length ≤ l.length := by
  have := congrArg List.length (bef_from p l)
  rw [List.length_append] at this
  omega
theorem cutP_len {a x y : List UInt8} (h : cutP a = some (x, y)) : x.length ≤ a.length ∧ y.length ≤ a.length := by
  unfold cutP at h
  split at h
  · unfold cutB at h
    have e := congrArg List.length (bef_from (isB 93) a)
    rw [List.length_append] at e
    split at h
    · cases h
    · rename_i b hb
      injection h with h
      injection h with h1 h2
      rw [hb] at e
      rw [← h1, ← h2]
      simp at e ⊢
      omega
    · rename_i b c d hb
      split at h
      · injection h with h
        injection h with h1 h2
        rw [hb] at e
        rw [← h1, ← h2]
        simp at e ⊢
        omega
      · cases h
  · injection h with h
    injection h with h1 h2
    have := bef_len (isB 58) a
    rw [← h1, ← h2, List.length_drop]
    omega
theorem addr_len (l : List UInt8) : (addrL l).length ≤ l.length ∧ (userL l).length ≤ l.length := by
  have := bef_len (isB 64) l.reverse
  rw [List.length_reverse] at this
  unfold addrL userL
  simp only [List.length_reverse, List.length_drop]
  omega

theorem zeroHost (w : World) : (zeroValue 27).run Tryz.prog w = .ok (.agg hz) w := (zero_of_info (P := Tryz.prog) (t := 27) (v := .agg hz) (n := 11) (by kernel_rfl)).1 w

set_option maxRecDepth 20000 in
set_option maxHeartbeats 4000000 in
theorem parseS_any (hPar : HoPar 13) (S T : ByteArray) (w : World) (zS : S.size ≤ 1000000000) (zT : T.size ≤ 999999999) (hw : Uw w) :
    Calls Tryz.prog 105 #[.string S, .string T] w (UrlPost w (specP (ls S) (ls T))) := by
  have c1 := fun W => cpre2_any T W
  by_cases h1 : (ls T).take 2 = [47, 47]
  · simp only [if_pos h1, decide_eq_true h1] at c1
    have hsp : specP (ls S) (ls T) = authP (ls S) (befL endA ((ls T).drop 2)) (fromL endA ((ls T).drop 2)) := by unfold specP; rw [if_pos h1]
    have hlD : ((ls T).drop 2).length ≤ 999999999 := by rw [List.length_drop, ls_length]; omega
    generalize (ls T).drop 2 = D at *
    have c2 := fun W => cutA_any (bs D) W (by rw [bs_size]; omega)
    rw [ls_bs] at c2
    have hlA := bef_len endA D
    generalize befL endA D = A at *
    generalize fromL endA D = R at *
    have c3 := fun W => cutU_any (bs A) W (by rw [bs_size]; omega)
    rw [ls_bs] at c3
    have hlU := addr_len A
    have hau : authP (ls S) A R = match cutP (addrL A) with
        | none => (4, uv0)
        | some q => hostP (ls S) (userL A) R q.1 q.2 := rfl
    generalize addrL A = E at *
    generalize userL A = U at *
    have c4 := fun W => cutPo_any (bs E) W (by rw [bs_size]; omega)
    unfold PortPost at c4
    rw [ls_bs] at c4
    have zU : U.length ≤ 1000000000 := by omega
    have zR : R.length ≤ 999999999 := by omega
    have zE : E.length ≤ 1000000000 := by omega
    have HSP := Lib.hid (hsp.trans hau)
    have HW := Lib.hid hw
    clear hsp hau hlU hlA hlD h1 zT hw
    go_enter Tryz.func105, Tryz.ntmps105
    go_wp2_with (first
      | (refine wpList_alloc_arr _ rfl 4 rfl _ rfl uz zeroUrl ?_
         intro W1 g4 hg4 hl4 hr4 hG
         have hbw := below_row0 (Below.refl w.heap.size w) hG (Nat.le_refl _))
      | (go_at_call 44; refine (c1 _).mono ?_; rintro e w5 ⟨rfl, rfl⟩)
      | (go_at_call 147; refine (c2 _).mono ?_; rintro e w5 ⟨rfl, hb5⟩
         replace hr4 : RowU w5 g4 uz := Row.below hr4 hb5 (Row.lt hr4)
         replace hbw := hbw.trans (hb5.mono hbw.size)
         clear hb5)
      | (go_at_call 148; refine (c3 _).mono ?_; rintro e w6 ⟨rfl, hb6⟩
         replace hr4 : RowU w6 g4 uz := Row.below hr4 hb6 (Row.lt hr4)
         replace hbw := hbw.trans (hb6.mono hbw.size)
         clear hb6))
    refine (c4 _).mono ?_
    rintro e w7 ⟨⟨x, y, ok, rfl, hcp⟩, hb7⟩
    replace hr4 : RowU w7 g4 uz := Row.below hr4 hb7 (Row.lt hr4)
    replace hbw := hbw.trans (hb7.mono hbw.size)
    clear hb7
    cases ok with
    | false =>
      have HP : Hid (specP (ls S) (ls T) = (4, uv0)) := Lib.hid (by rw [HSP.out, hcp]; rfl)
      clear hcp
      go_wp2_with (refine wpList_store_url rfl rfl _ _ rfl g4 (by exact rfl) uz (by exact rfl) uz hr4 rfl rfl (uc_one _ _ _ _ _ _ _ _) ?_
                   intro w8 hr8 hG8
                   have hb8 := below_row hbw hG8 (Nat.le_refl _) hg4)
      exact ret_url 4 5 rfl g4 rfl uz hr8 rfl _ rfl rfl ⟨by rw [HP.out]; rfl, hb8⟩
    | true =>
      rw [if_pos rfl] at hcp
      have hlx := cutP_len hcp
      rw [ls_length, ls_length] at hlx
      have hw7 := uw_below HW.out (hbw.mono (Nat.le_refl _))
      have c5 := hPar x w7 (by omega) hw7.1
      unfold HostPost at c5
      have HP : Hid (specP (ls S) (ls T) = hostP (ls S) U R (ls x) (ls y)) := Lib.hid (by rw [HSP.out, hcp])
      clear hcp
      obtain ⟨q, hq⟩ : ∃ q, q = parseH (ls x) := ⟨_, rfl⟩
      rw [← hq] at c5
      have HQ := Lib.hid hq
      clear hq
      obtain ⟨n1, h⟩ := q
      simp only at c5
      by_cases hn : n1 = 0
      · subst hn
        have hH1 : h.cells.all (·.oneCell') = true := hc_one _ _ _ _
        obtain ⟨k, N, v, x0, x1, x2, x3, x4, x5, x6, x7, R2, zN, hR2, eH, hUC, hPn, hPs⟩ : ∃ (k : Int) (N : ByteArray) (v x0 x1 x2 x3 x4 x5 x6 x7 : Int) (R2 : ByteArray), N.size ≤ 1000000000 ∧ R2 = bs (restP R) ∧ h.cells = #[.int .i64 k, .string N, .int .u32 v, .int .u16 x0, .int .u16 x1, .int .u16 x2, .int .u16 x3, .int .u16 x4, .int .u16 x5, .int .u16 x6, .int .u16 x7] ∧
            (∀ p, UC #[.string S, .string (bs U), .int .i64 k, .string N, .int .u32 v, .int .u16 x0, .int .u16 x1, .int .u16 x2, .int .u16 x3, .int .u16 x4, .int .u16 x5, .int .u16 x6, .int .u16 x7, .int .i64 p, .string R2] S (bs U) N h.cells p R2) ∧ (portP (ls y) (stdP (ls S)) = none → specP (ls S) (ls T) = (16, uv0)) ∧
            (∀ p, portP (ls y) (stdP (ls S)) = some p → (specP (ls S) (ls T)).1 = 0 ∧ (specP (ls S) (ls T)).2.cells = #[.string S, .string (bs U), .int .i64 k, .string N, .int .u32 v, .int .u16 x0, .int .u16 x1, .int .u16 x2, .int .u16 x3, .int .u16 x4, .int .u16 x5, .int .u16 x6, .int .u16 x7, .int .i64 p, .string R2]) := by
          refine ⟨h.kind, bs h.name, (h.v4 : Nat), ((h.v6.getD 0 0 : Nat) : Int), ((h.v6.getD 1 0 : Nat) : Int), ((h.v6.getD 2 0 : Nat) : Int), ((h.v6.getD 3 0 : Nat) : Int), ((h.v6.getD 4 0 : Nat) : Int), ((h.v6.getD 5 0 : Nat) : Int), ((h.v6.getD 6 0 : Nat) : Int), ((h.v6.getD 7 0 : Nat) : Int), bs (restP R), ?_, rfl, rfl, ?_, ?_, ?_⟩
          · have := parseH_name (ls x)
            rw [← HQ.out] at this
            rw [bs_size]
            show h.name.length ≤ _
            simp only at this
            omega
          · intro p
            have := uc_facts ⟨ls S, U, h, p, restP R⟩
            simp only [bs_ls] at this
            exact this
          · intro hp
            rw [HP.out]
            unfold hostP
            rw [← HQ.out, if_pos rfl, hp]
          · intro p hp
            rw [HP.out]
            unfold hostP
            rw [← HQ.out, if_pos rfl, hp]
            exact ⟨rfl, rfl⟩
        rw [eH] at c5 hH1 hUC
        have HPN := Lib.hid hPn
        have HPS := Lib.hid hPs
        have HUC := Lib.hid hUC
        have HR2 := Lib.hid hR2
        have c6 := fun W => defP_any S W
        obtain ⟨std, hstd⟩ : ∃ z, z = stdP (ls S) := ⟨_, rfl⟩
        rw [← hstd] at c6 HPN HPS
        have c8 := fun W => hpre1_any (bs R) 47 W
        rw [ls_bs] at c8
        have zU2 : (bs U).size ≤ 1000000000 := by rw [bs_size]; exact zU
        have zR1 : (bs R).size ≤ 1000000000 := by rw [bs_size]; omega
        clear hPn hPs hUC hR2 hstd eH
        go_wp2_with fail
        refine c5.mono ?_
        rintro e w8 ⟨rfl, hb8⟩
        have hlt4 : g4 < w8.heap.size := Nat.lt_of_lt_of_le (Row.lt hr4) hb8.size
        replace hr4 : RowU w8 g4 uz := Row.below hr4 hb8 (Row.lt hr4)
        replace hbw := hbw.trans (hb8.mono hbw.size)
        have hr14 : RowH (w8.alloc (.cells #[.int .i64 k, .string N, .int .u32 v, .int .u16 x0, .int .u16 x1, .int .u16 x2, .int .u16 x3, .int .u16 x4, .int .u16 x5, .int .u16 x6, .int .u16 x7] 27)) w8.heap.size #[.int .i64 k, .string N, .int .u32 v, .int .u16 x0, .int .u16 x1, .int .u16 x2, .int .u16 x3, .int .u16 x4, .int .u16 x5, .int .u16 x6, .int .u16 x7] := row_new w8 _ _
        replace hr4 : RowU (w8.alloc (.cells #[.int .i64 k, .string N, .int .u32 v, .int .u16 x0, .int .u16 x1, .int .u16 x2, .int .u16 x3, .int .u16 x4, .int .u16 x5, .int .u16 x6, .int .u16 x7] 27)) g4 uz := Row.grown0 hr4 (World.grownBy_alloc w8 _ _)
        have hne4 : g4 ≠ w8.heap.size := Nat.ne_of_lt hlt4
        have h14 := hbw.size
        replace hbw := hbw.alloc h14 (.cells #[.int .i64 k, .string N, .int .u32 v, .int .u16 x0, .int .u16 x1, .int .u16 x2, .int .u16 x3, .int .u16 x4, .int .u16 x5, .int .u16 x6, .int .u16 x7] 27)
        clear hb8
        go_wp2_with (go_at_call 69; refine (c6 _).mono ?_; rintro e w5 ⟨rfl, rfl⟩)
        have hW9 := uw_below HW.out hbw
        refine (port_any y std (by omega) _ hW9.1.2.2 hW9.2).mono ?_
        rintro e w10 ⟨⟨p, ok, rfl, hpp⟩, hb10⟩
        replace hr4 : RowU w10 g4 uz := Row.below hr4 hb10 (Row.lt hr4)
        replace hr14 : RowH w10 w8.heap.size #[.int .i64 k, .string N, .int .u32 v, .int .u16 x0, .int .u16 x1, .int .u16 x2, .int .u16 x3, .int .u16 x4, .int .u16 x5, .int .u16 x6, .int .u16 x7] := Row.below hr14 hb10 (Row.lt hr14)
        replace hbw := hbw.trans (hb10.mono hbw.size)
        clear hb10 hW9
        cases ok with
        | false =>
          have HP3 := Lib.hid (HPN.out hpp)
          clear hpp
          go_wp2_with (refine wpList_store_url rfl rfl _ _ rfl g4 (by exact rfl) uz (by exact rfl) uz hr4 rfl rfl (uc_one _ _ _ _ _ _ _ _) ?_
                       intro w11 hr11 hG11
                       have hb11 := below_row hbw hG11 (Nat.le_refl _) hg4)
          exact ret_url 4 5 rfl g4 rfl uz hr11 rfl _ rfl rfl ⟨by rw [HP3.out]; rfl, hb11⟩
        | true =>
          have HP3 := Lib.hid (HPS.out p hpp)
          have hUCp := HUC.out p
          clear hpp
          by_cases hd : R.head? = some 47
          · have eR : bs R = R2 := by rw [HR2.out]; unfold restP; rw [if_pos hd]
            rw [decide_eq_true hd, eR] at c8
            rw [eR] at zR1 ⊢
            clear hd
            go_wp2_with (first
              | (go_at_call 116; refine (c8 _).mono ?_; rintro e w5 ⟨rfl, rfl⟩)
              | (refine wpList_load_host rfl _ rfl w8.heap.size (by exact rfl) #[.int .i64 k, .string N, .int .u32 v, .int .u16 x0, .int .u16 x1, .int .u16 x2, .int .u16 x3, .int .u16 x4, .int .u16 x5, .int .u16 x6, .int .u16 x7] hr14 rfl ?_)
              | (go_at_call 72; refine (copy_cells hUCp zS zU2 zN zR1 _).mono ?_; rintro e w12 ⟨rfl, hb12⟩
                 replace hr4 : RowU w12 g4 uz := Row.below hr4 hb12 (Row.lt hr4)
                 replace hbw := hbw.trans (hb12.mono hbw.size))
              | (refine wpList_store_url rfl rfl _ _ rfl g4 (by exact rfl) #[.string S, .string (bs U), .int .i64 k, .string N, .int .u32 v, .int .u16 x0, .int .u16 x1, .int .u16 x2, .int .u16 x3, .int .u16 x4, .int .u16 x5, .int .u16 x6, .int .u16 x7, .int .i64 p, .string R2] (by exact rfl) uz hr4 rfl rfl hUCp.one ?_
                 intro w13 hr13 hG13
                 have hb13 := below_row hbw hG13 (Nat.le_refl _) hg4))
            exact ret_url 4 5 rfl g4 rfl #[.string S, .string (bs U), .int .i64 k, .string N, .int .u32 v, .int .u16 x0, .int .u16 x1, .int .u16 x2, .int .u16 x3, .int .u16 x4, .int .u16 x5, .int .u16 x6, .int .u16 x7, .int .i64 p, .string R2] hr13 rfl _ rfl rfl ⟨by rw [HP3.out.1, HP3.out.2]; rfl, hb13⟩
          · have eR : (⟨#[47]⟩ : ByteArray) ++ bs R = R2 := by
              rw [HR2.out]
              unfold restP
              rw [if_neg hd]
              apply ls_inj
              rw [ls_append, ls_bs, ls_bs]
              rfl
            rw [decide_eq_false hd] at c8
            have zR2 : R2.size ≤ 1000000000 := by
              rw [← eR, ByteArray.size_append]
              have : (⟨#[47]⟩ : ByteArray).size = 1 := rfl
              rw [bs_size] at zR1 ⊢
              omega
            have HE := Lib.hid eR
            clear hd eR
            go_wp2_with (first
              | (go_at_call 116; refine (c8 _).mono ?_; rintro e w5 ⟨rfl, rfl⟩)
              | (refine wpList_load_host rfl _ rfl w8.heap.size (by exact rfl) #[.int .i64 k, .string N, .int .u32 v, .int .u16 x0, .int .u16 x1, .int .u16 x2, .int .u16 x3, .int .u16 x4, .int .u16 x5, .int .u16 x6, .int .u16 x7] hr14 rfl ?_)
              | (go_at_call 72; rw [HE.out]; refine (copy_cells hUCp zS zU2 zN zR2 _).mono ?_; rintro e w12 ⟨rfl, hb12⟩
                 replace hr4 : RowU w12 g4 uz := Row.below hr4 hb12 (Row.lt hr4)
                 replace hbw := hbw.trans (hb12.mono hbw.size))
              | (refine wpList_store_url rfl rfl _ _ rfl g4 (by exact rfl) #[.string S, .string (bs U), .int .i64 k, .string N, .int .u32 v, .int .u16 x0, .int .u16 x1, .int .u16 x2, .int .u16 x3, .int .u16 x4, .int .u16 x5, .int .u16 x6, .int .u16 x7, .int .i64 p, .string R2] (by exact rfl) uz hr4 rfl rfl hUCp.one ?_
                 intro w13 hr13 hG13
                 have hb13 := below_row hbw hG13 (Nat.le_refl _) hg4))
            exact ret_url 4 5 rfl g4 rfl #[.string S, .string (bs U), .int .i64 k, .string N, .int .u32 v, .int .u16 x0, .int .u16 x1, .int .u16 x2, .int .u16 x3, .int .u16 x4, .int .u16 x5, .int .u16 x6, .int .u16 x7, .int .i64 p, .string R2] hr13 rfl _ rfl rfl ⟨by rw [HP3.out.1, HP3.out.2]; rfl, hb13⟩
      · have hne : ((n1 : Int) != 0) = true := by rw [bne, beq_eq_false_iff_ne.2 (by omega)]; rfl
        have HP2 : Hid (specP (ls S) (ls T) = (n1, uv0)) := Lib.hid (by rw [HP.out]; unfold hostP; rw [← HQ.out, if_neg hn])
        have hH : h.cells.size = 11 := rfl
        have hH1 : h.cells.all (·.oneCell') = true := hc_one _ _ _ _
        generalize h.cells = H at *
        go_wp2_with fail
        refine c5.mono ?_
        rintro e w8 ⟨rfl, hb8⟩
        have hlt4 : g4 < w8.heap.size := Nat.lt_of_lt_of_le (Row.lt hr4) hb8.size
        replace hr4 : RowU w8 g4 uz := Row.below hr4 hb8 (Row.lt hr4)
        replace hbw := hbw.trans (hb8.mono hbw.size)
        have hr14 : RowH (w8.alloc (.cells hz 27)) w8.heap.size hz := row_new w8 _ _
        replace hr4 : RowU (w8.alloc (.cells hz 27)) g4 uz := Row.grown0 hr4 (World.grownBy_alloc w8 _ _)
        have hne4 : g4 ≠ w8.heap.size := Nat.ne_of_lt hlt4
        have h14 := hbw.size
        replace hbw := hbw.alloc h14 (.cells hz 27)
        clear hb8
        go_wp2_with (first
          | (refine wpList_store_host rfl rfl _ _ rfl w8.heap.size (by exact rfl) H (by exact rfl) hz hr14 rfl hH hH1 ?_
             intro w9 hr9 hG9
             replace hr4 : RowU w9 g4 uz := Row.grown hr4 hG9 hne4
             replace hbw := below_row hbw hG9 (Nat.le_refl _) h14)
          | (refine wpList_store_url rfl rfl _ _ rfl g4 (by exact rfl) uz (by exact rfl) uz hr4 rfl rfl (uc_one _ _ _ _ _ _ _ _) ?_
             intro w8 hr8 hG8
             have hb8 := below_row hbw hG8 (Nat.le_refl _) hg4))
        exact ret_url 4 5 rfl g4 rfl uz hr8 rfl _ rfl rfl ⟨by rw [HP2.out]; rfl, hb8⟩
  · have HP : Hid (specP (ls S) (ls T) = (4, uv0)) := Lib.hid (by unfold specP; rw [if_neg h1])
    simp only [if_neg h1, decide_eq_false h1] at c1
    clear h1 hw
    go_enter Tryz.func105, Tryz.ntmps105
    go_wp2_with (first
      | (refine wpList_alloc_arr _ rfl 4 rfl _ rfl uz zeroUrl ?_
         intro W1 g4 hg4 hl4 hr4 hG
         have hbw := below_row0 (Below.refl w.heap.size w) hG (Nat.le_refl _))
      | (go_at_call 44; refine (c1 _).mono ?_; rintro e w5 ⟨rfl, rfl⟩)
      | (refine wpList_store_url rfl rfl _ _ rfl g4 (by exact rfl) uz (by exact rfl) uz hr4 rfl rfl (uc_one _ _ _ _ _ _ _ _) ?_
         intro w7 hr7 hG7
         have hb7 := below_row hbw hG7 (Nat.le_refl _) hg4))
    exact ret_url 4 5 rfl g4 rfl uz hr7 rfl _ rfl rfl ⟨by rw [HP.out]; rfl, hb7⟩
end

section
open Go.RowKit

set_option maxHeartbeats 400000 in
theorem isUpper_any (b : Int) (w : World) : Calls Tryz.prog 184 #[.int .u8 b] w fun e w' => e = .returned (.bool (upperB b)) ∧ w = w' := by
  go_enter Tryz.func184, Tryz.ntmps184
  go_wp2
  all_goals
    go_ret
    exact ⟨ret_bool (by first | (simp [upperB, *]; done) | (simp [upperB, *]; omega)), rfl⟩

set_option maxHeartbeats 400000 in
theorem lowerByte_any (b : Int) (h0 : 0 ≤ b) (h1 : b ≤ 255) (w : World) : Calls Tryz.prog 146 #[.int .u8 b] w fun e w' => e = .returned (.int .u8 (lowI b)) ∧ w = w' := by
  by_cases hu : upperB b = true
  · have hb : b ≤ 90 := by simp [upperB] at hu; omega
    go_enter Tryz.func146, Tryz.ntmps146
    go_wp2_with (go_at_call 184; refine (isUpper_any _ _).mono ?_; rintro e w' ⟨rfl, rfl⟩)
    go_ret
    exact ⟨ret_int (by simp [lowI, hu]), rfl⟩
  · have hu' : upperB b = false := by simpa using hu
    clear hu
    go_enter Tryz.func146, Tryz.ntmps146
    go_wp2_with (go_at_call 184; refine (isUpper_any _ _).mono ?_; rintro e w' ⟨rfl, rfl⟩)
    go_ret
    exact ⟨ret_int (by simp [lowI, hu']), rfl⟩

theorem lowerByte_u8 (c : UInt8) (w : World) : Calls Tryz.prog 146 #[.int .u8 (c.toNat : Int)] w fun e w' => e = .returned (.int .u8 ((lowU c).toNat : Int)) ∧ w = w' := by
  have := byte_lt c
  rw [lowU_toNat]
  exact lowerByte_any _ (by omega) (by omega) w

/-- make([]byte, n) for a length that is a natural number. -/
theorem mk_bytes (w : World) (n : Nat) (hn : n ≤ 281474976710656) : (Instr.makeSlice 40 (.int .i64 (n : Int)) (.int .i64 (n : Int))).run Tryz.prog w =
    .ok (.slice (some ⟨w.heap.size, 0, none⟩) n n) (w.alloc (.cells (zeros n) 5)) := by
  obtain ⟨i, hi, hz0, hz1, hz2⟩ := info_parts infoU8
  have h := run_make (P := Tryz.prog) w 40 5 i (.int .u8 0) tyBs hi hz0 .i64 .i64 n n (by omega) (by omega) (by rw [hz2]; omega) (by omega)
  rw [hz1] at h
  simpa [made_u8, Value.cells] using h

/-- string(b) of a row that is full of the bytes l. -/
theorem str_bytes (w : World) (b off n c : Nat) (l : List UInt8) (hl : l.length = n) (hc : ∀ j, j < n → w.cell? ⟨b, off + j, none⟩ = some (.int .u8 ((l.map fun c => (c.toNat : Int)).getD j 0))) :
    (convert 40 9 (.slice (some ⟨b, off, none⟩) n c)).run Tryz.prog w = .ok (.string (bs l)) w := by
  rw [run_convert_bytes_arg w 40 5 tyBs tyU8 b off n c (l.map fun c => (c.toNat : Int)) (by simpa using hl) hc 9 tyStr, strOfNums_bytes]

set_option maxHeartbeats 1000000 in
theorem lower_any (s : ByteArray) (w : World) (hs : s.size ≤ 1000000000) :
    Calls Tryz.prog 104 #[.string s] w fun e w' => e = .returned (.string (lowS s)) ∧ Below w.heap.size w w' := by
  have hmk := mk_bytes w s.size (by omega)
  have hconv := str_bytes (w.alloc (.cells (fillRow (lowL (ls s)) s.size s.size) 5)) w.heap.size 0 s.size s.size (lowL (ls s)) (by rw [lowL_length, ls_length]) (by
    intro j hj
    rw [World.cell?_alloc_at _ _ _ _ rfl, Nat.zero_add]
    exact fillRow_all _ _ _ (by rw [lowL_length, ls_length]) hj)
  go_enter Tryz.func104, Tryz.ntmps104
  go_wp2
  go_loopw [10] (fun i wr => ∃ k : Nat, k ≤ s.size ∧ i = .int .i64 k ∧ wr = w.alloc (.cells (fillRow (lowL (ls s)) s.size k) 5)) (fun i _ => s.size - (intOf i).toNat)
  case atStart => exact ⟨0, Nat.zero_le _, rfl, by rw [fillRow_zero]⟩
  case round =>
    obtain ⟨k, hk, rfl, rfl⟩ := hrel
    by_cases hlt : k < s.size
    · have hck := fillRow_next (lowL (ls s)) s.size k (by rw [lowL_length, ls_length]) hlt
      have hset : Hid (((fillRow (lowL (ls s)) s.size k).setIfInBounds k (.int .u8 ((lowU s[k]).toNat : Int))) = fillRow (lowL (ls s)) s.size (k + 1)) :=
        fillRow_set _ _ _ (by rw [lowL_length, ls_length]) hlt _ (by simp only [lowL, List.getElem?_map, ls_get s k hlt, Option.map_some])
      go_wp2_with (go_at_call 146; refine (lowerByte_u8 _ _).mono ?_; rintro e w' ⟨rfl, rfl⟩)
      go_roundw
      case rel => exact ⟨k + 1, by omega, by go_num, by rw [hset.out]⟩
      case measure => simp [intOf]; omega
    · obtain rfl : k = s.size := by omega
      go_wp2
      go_ret
      exact ⟨rfl, (Below.refl _ _).alloc (Nat.le_refl _) _⟩
end

end Go.Proofs.YtpccpgihldpiiaaGreatDoor
