/-
The law of the round trip of URLs.
What the statements' listed variables give: the library's tables and the error of a text that is no number.
What the statements' listed variables give for URLs: also the error of a number out of range.
-/
import Derived.Test.YtpccpgihldpiiaaGreatDoorC31
import Derived.Test.YtpccpgihldpiiaaGreatDoorC25
import Derived.Test.YtpccpgihldpiiaaGreatDoorShelf
import Derived.PinnedBridge
import Derived.Lib.LaidU8
import Derived.Lib.LaidTab
import Derived.Lib.TrailingZeros
import Derived.MakeChecks
import Derived.Lay
import Derived.LaidOnce
import Derived.Stop.LaidErr
import Derived.Test.YtpccpgihldpiiaaGreatDoorC30
namespace Go.Proofs.YtpccpgihldpiiaaGreatDoor
section
open Go.RowKit Go.Shelf

theorem uv0_sm : USm uv0 := ⟨hv0_wf, by decide, by decide, by decide, by decide, by decide, by decide⟩
theorem parseU_sm (l : List UInt8) (hl : l.length ≤ 99999990) : USm (parseU l).2 := by
  have hs : ∀ sch r : List UInt8, sch.length ≤ 99999990 → r.length ≤ 99999990 → USm (specP sch r).2 := by
    intro sch r h1 h2
    unfold specP
    split
    · have h3 := bef_len endA (r.drop 2)
      rw [List.length_drop] at h3
      have h4 := addr_len (befL endA (r.drop 2))
      unfold authP
      split
      · exact uv0_sm
      · rename_i q hq
        unfold hostP
        split
        · split
          · exact uv0_sm
          · rename_i p hp
            have h5 := portP_range hp
            have h6 := parseH_name q.1
            have h7 : (restP (fromL endA (r.drop 2))).length ≤ (fromL endA (r.drop 2)).length + 1 := by unfold restP; split <;> simp
            exact ⟨(parse_valid _).1, by show (parseH q.1).2.name.length ≤ _; omega, by show sch.length ≤ _; omega, by show (userL (befL endA (r.drop 2))).length ≤ _; omega, by show (restP (fromL endA (r.drop 2))).length ≤ _; omega, by show _ ≤ p; omega, by show p ≤ _; omega⟩
        · exact uv0_sm
    · exact uv0_sm
  have h1 := bef_len (isB 58) l
  have h2 : ((fromL (isB 58) l).drop 1).length ≤ 99999990 := by rw [List.length_drop]; omega
  have h3 : (lowL (befL (isB 58) l)).length ≤ 99999990 := by rw [low_len]; omega
  unfold parseU
  split
  · exact uv0_sm
  · split
    · split
      · exact hs _ _ h3 h2
      · exact ⟨hv0_wf, by show (0 : Nat) ≤ _; omega, by show (lowL (befL (isB 58) l)).length ≤ _; omega, by show (0 : Nat) ≤ _; omega, by show ((fromL (isB 58) l).drop 1).length ≤ _; omega, by show _ ≤ (-1 : Int); omega, by show (-1 : Int) ≤ _; omega⟩
    · exact uv0_sm
theorem good_port {u : Uv} (h : UGood u) : -1 ≤ u.port := by
  cases hs : specL u.scheme with
  | true =>
    have := (h.spec hs).2.2.2
    rcases this with h1 | h1
    · omega
    · have := h1.1; omega
  | false =>
    have := (h.plain hs).2.2
    omega
theorem good_valid {u : Uv} (h : UGood u) : validX u = true := by
  unfold validX
  rw [textX_eq (good_port h), good_parse h]
  simp [eqU_self]
theorem parse_err {l : List UInt8} (h : (parseU l).1 ≠ 0) : (parseU l).2 = uv0 := by
  have hs : ∀ sch r : List UInt8, (specP sch r).1 ≠ 0 → (specP sch r).2 = uv0 := by
    intro sch r
    unfold specP
    split
    · unfold authP
      split
      · intro _; rfl
      · unfold hostP
        split
        · split
          · intro _; rfl
          · intro h; exact absurd rfl h
        · intro _; rfl
    · intro _; rfl
  revert h
  unfold parseU
  split
  · intro _; rfl
  · split
    · split
      · exact hs _ _
      · intro h; exact absurd rfl h
    · intro _; rfl
theorem parseUL_sm (l : List UInt8) : USm (parseUL l).2 := by
  unfold parseUL
  split
  · exact uv0_sm
  · exact parseU_sm l (by omega)
theorem parseUL_err {l : List UInt8} (h : (parseUL l).1 ≠ 0) : (parseUL l).2 = uv0 := by
  revert h
  unfold parseUL
  split
  · intro _; rfl
  · exact parse_err
theorem parseUL_good {l : List UInt8} (h : (parseUL l).1 = 0) : UGood (parseUL l).2 := by
  revert h
  unfold parseUL
  split
  · intro h; cases h
  · intro h
    exact parse_good (u := (parseU l).2) (by rw [← h])

theorem parseUL_of {l : List UInt8} {v : Uv} (h : parseU l = (0, v)) : parseUL l = if 2048 < l.length then (3, uv0) else (0, v) := by
  unfold parseUL
  rw [h]

set_option maxRecDepth 20000 in
set_option maxHeartbeats 2000000 in
theorem walkUrRT (hPar : HoPar 13) (hF : HoFmt 108) (s : ByteArray) (w : World) (hsz : s.size ≤ maxLen) (hw : Uw w) :
    Calls Tryz.prog 9 #[.string s] w (Yes w) := by
  have cw := fun W hW => awake15_any hPar hF W hW
  unfold Yes at cw
  by_cases h1 : 2200 < s.size
  · have hd : decide ((2200 : Int) < (s.size : Int)) = true := decide_eq_true (by omega)
    have HW := Lib.hid hw
    clear h1 hw
    go_enter Tryz.func9, Tryz.ntmps9
    go_wp2_with (go_at_call 27; refine (cw _ HW.out).mono ?_; rintro e w1 ⟨rfl, hb⟩)
    go_ret
    exact ⟨rfl, hb⟩
  · have hd : decide ((2200 : Int) < (s.size : Int)) = false := decide_eq_false (by omega)
    have c1 := fun W hW => Parse_any hPar s W hsz hW
    unfold UrlPost at c1
    have hsm := parseUL_sm (ls s)
    have hC := urv_size (parseUL (ls s)).2
    have hC1 := urv_one (parseUL (ls s)).2
    by_cases hn : (parseUL (ls s)).1 = 0
    · have hg := parseUL_good hn
      have hgp := good_port hg
      have c3 := fun W hW => urlValid_any hPar hF _ hsm W hW
      have c4 := fun W hW => urlFormat_any hPar hF _ hsm W hW
      rw [good_valid hg] at c3 c4
      simp only [if_pos, textX_eq hgp] at c4
      have c5 := fun W hW => Parse_any hPar (bs (textU (parseUL (ls s)).2)) W (by rw [bs_size, ← textX_eq hgp]; have := textX_len hsm; unfold maxLen; omega) hW
      unfold UrlPost at c5
      rw [ls_bs] at c5
      have hte := text_ne (parseUL (ls s)).2
      have hpt := good_parse hg
      have hPL := parseUL_of hpt
      have hE := fun W => eq_url (parseUL (ls s)).2 (parseUL (ls s)).2 hsm.wf hsm.wf W
      rw [eqU_self] at hE
      rw [hn] at c1
      rw [hPL] at c5
      clear hPL hpt hg hgp hsm hn
      generalize (parseUL (ls s)).2 = u at *
      obtain ⟨t, ht⟩ : ∃ t, t = bs (textU u) := ⟨_, rfl⟩
      have htl : (textU u).length = t.size := by rw [ht, bs_size]
      have hts : t.toList.isEmpty = false := by
        rw [ht, Lib.toList_data]
        show (textU u).isEmpty = false
        cases h : textU u with
        | nil => exact absurd h hte
        | cons _ _ => rfl
      rw [← ht] at c4 c5
      rw [htl] at c5
      have HW := Lib.hid hw
      clear h1 hw hte ht htl
      by_cases hlen : 2048 < t.size
      · rw [if_pos hlen] at c5
        have hZ := urv_size uv0
        have hZ1 := urv_one uv0
        have hdl : decide ((2048 : Int) < (t.size : Int)) = true := decide_eq_true (by omega)
        simp only at c5
        generalize uv0.cells = Z at *
        generalize u.cells = C at *
        clear hlen
        go_enter Tryz.func9, Tryz.ntmps9
        go_wp2_with fail
        refine (c1 _ HW.out).mono ?_
        rintro e w1 ⟨rfl, hbw⟩
        go_wp2_with (first
          | (refine wpList_alloc_arr _ rfl 3 rfl _ rfl uz zeroUrl ?_
             intro W3 g3 hg3 hl3 hR3 hG3
             have h3 : w.heap.size ≤ g3 := by have := hbw.size; omega
             replace hbw := below_row0 hbw hG3 (Nat.le_refl _))
          | (refine wpList_store_url rfl rfl _ _ rfl g3 (by exact rfl) C (by exact rfl) uz hR3 rfl hC hC1 ?_
             intro w4 hr3 hG4
             replace hbw := below_row hbw hG4 (Nat.le_refl _) h3)
          | (refine wpList_load_url (by rfl) _ rfl g3 (by exact rfl) C hr3 hC ?_)
          | (go_at_call 31; refine (c4 _ (uw_below HW.out hbw)).mono ?_; rintro e w5 ⟨rfl, hb5⟩
             replace hr3 : RowU w5 g3 C := Row.below hr3 hb5 (Row.lt hr3)
             replace hbw := hbw.trans (hb5.mono hbw.size)))
        refine (c5 _ (uw_below HW.out hbw)).mono ?_
        rintro e w6 ⟨rfl, hb6⟩
        replace hr3 : RowU w6 g3 C := Row.below hr3 hb6 (Row.lt hr3)
        replace hbw := hbw.trans (hb6.mono hbw.size)
        clear hb6 hb5 hG3 hG4 hR3
        go_wp2_with (first
          | (refine wpList_alloc_arr _ rfl 6 rfl _ rfl uz zeroUrl ?_
             intro W7 g6 hg6 hl6 hR6 hG6
             have hne36 : g3 ≠ g6 := by have := Row.lt hr3; omega
             have h6 : w.heap.size ≤ g6 := by have := hbw.size; omega
             replace hr3 : RowU W7 g3 C := Row.grown0 hr3 hG6
             replace hbw := below_row0 hbw hG6 (Nat.le_refl _))
          | (refine wpList_store_url rfl rfl _ _ rfl g6 (by exact rfl) Z (by exact rfl) uz hR6 rfl hZ hZ1 ?_
             intro w8 hr6 hG8
             replace hr3 : RowU w8 g3 C := Row.grown hr3 hG8 hne36
             replace hbw := below_row hbw hG8 (Nat.le_refl _) h6)
          | (refine wpList_load_url (by rfl) _ rfl g3 (by exact rfl) C hr3 hC ?_)
          | (refine wpList_load_url (by rfl) _ rfl g6 (by exact rfl) Z hr6 hZ ?_)
          | (go_at_call 33; refine (c3 _ (uw_below HW.out hbw)).mono ?_; rintro e w9 ⟨rfl, hb9⟩
             replace hr3 : RowU w9 g3 C := Row.below hr3 hb9 (Row.lt hr3)
             replace hr6 : RowU w9 g6 Z := Row.below hr6 hb9 (Row.lt hr6)
             replace hbw := hbw.trans (hb9.mono hbw.size))
          | (go_at_call 27; refine (cw _ (uw_below HW.out hbw)).mono ?_; rintro e w5 ⟨rfl, hb5⟩
             replace hbw := hbw.trans (hb5.mono hbw.size)))
        go_ret
        exact ⟨rfl, hbw⟩
      · rw [if_neg hlen] at c5
        have hdl : decide ((2048 : Int) < (t.size : Int)) = false := decide_eq_false (by omega)
        simp only at c5
        generalize u.cells = C at *
        have hZ := hC
        have hZ1 := hC1
        clear hlen
        go_enter Tryz.func9, Tryz.ntmps9
        go_wp2_with fail
        refine (c1 _ HW.out).mono ?_
        rintro e w1 ⟨rfl, hbw⟩
        go_wp2_with (first
          | (refine wpList_alloc_arr _ rfl 3 rfl _ rfl uz zeroUrl ?_
             intro W3 g3 hg3 hl3 hR3 hG3
             have h3 : w.heap.size ≤ g3 := by have := hbw.size; omega
             replace hbw := below_row0 hbw hG3 (Nat.le_refl _))
          | (refine wpList_store_url rfl rfl _ _ rfl g3 (by exact rfl) C (by exact rfl) uz hR3 rfl hC hC1 ?_
             intro w4 hr3 hG4
             replace hbw := below_row hbw hG4 (Nat.le_refl _) h3)
          | (refine wpList_load_url (by rfl) _ rfl g3 (by exact rfl) C hr3 hC ?_)
          | (go_at_call 31; refine (c4 _ (uw_below HW.out hbw)).mono ?_; rintro e w5 ⟨rfl, hb5⟩
             replace hr3 : RowU w5 g3 C := Row.below hr3 hb5 (Row.lt hr3)
             replace hbw := hbw.trans (hb5.mono hbw.size)))
        refine (c5 _ (uw_below HW.out hbw)).mono ?_
        rintro e w6 ⟨rfl, hb6⟩
        replace hr3 : RowU w6 g3 C := Row.below hr3 hb6 (Row.lt hr3)
        replace hbw := hbw.trans (hb6.mono hbw.size)
        clear hb6 hb5 hG3 hG4 hR3
        go_wp2_with (first
          | (refine wpList_alloc_arr _ rfl 6 rfl _ rfl uz zeroUrl ?_
             intro W7 g6 hg6 hl6 hR6 hG6
             have hne36 : g3 ≠ g6 := by have := Row.lt hr3; omega
             have h6 : w.heap.size ≤ g6 := by have := hbw.size; omega
             replace hr3 : RowU W7 g3 C := Row.grown0 hr3 hG6
             replace hbw := below_row0 hbw hG6 (Nat.le_refl _))
          | (refine wpList_store_url rfl rfl _ _ rfl g6 (by exact rfl) C (by exact rfl) uz hR6 rfl hZ hZ1 ?_
             intro w8 hr6 hG8
             replace hr3 : RowU w8 g3 C := Row.grown hr3 hG8 hne36
             replace hbw := below_row hbw hG8 (Nat.le_refl _) h6)
          | (refine wpList_load_url (by rfl) _ rfl g3 (by exact rfl) C hr3 hC ?_)
          | (refine wpList_load_url (by rfl) _ rfl g6 (by exact rfl) C hr6 hZ ?_)
          | (go_at_call 33; refine (c3 _ (uw_below HW.out hbw)).mono ?_; rintro e w9 ⟨rfl, hb9⟩
             replace hr3 : RowU w9 g3 C := Row.below hr3 hb9 (Row.lt hr3)
             replace hr6 : RowU w9 g6 C := Row.below hr6 hb9 (Row.lt hr6)
             replace hbw := hbw.trans (hb9.mono hbw.size))
          | (go_at_call 27; refine (cw _ (uw_below HW.out hbw)).mono ?_; rintro e w5 ⟨rfl, hb5⟩
             replace hbw := hbw.trans (hb5.mono hbw.size)))
        go_ret
        exact ⟨rfl, hbw⟩
    · have e0 := parseUL_err hn
      rw [e0] at c1 hC hC1
      obtain ⟨n, hne⟩ : ∃ n, n = (parseUL (ls s)).1 := ⟨_, rfl⟩
      rw [← hne] at c1 hn
      have hn0 : ((n : Int) != 0) = true := by rw [bne, beq_eq_false_iff_ne.2 (by omega)]; rfl
      have hE := fun W => eq_url uv0 uv0 hv0_wf hv0_wf W
      rw [eqU_self] at hE
      rw [show uv0.cells = #[.string ⟨#[]⟩, .string ⟨#[]⟩, .int .i64 0, .string ⟨#[]⟩, .int .u32 0, .int .u16 0, .int .u16 0, .int .u16 0, .int .u16 0, .int .u16 0, .int .u16 0, .int .u16 0, .int .u16 0, .int .i64 0, .string ⟨#[]⟩] from rfl] at c1 hC hC1
      simp only [show uv0.cells = #[.string ⟨#[]⟩, .string ⟨#[]⟩, .int .i64 0, .string ⟨#[]⟩, .int .u32 0, .int .u16 0, .int .u16 0, .int .u16 0, .int .u16 0, .int .u16 0, .int .u16 0, .int .u16 0, .int .u16 0, .int .i64 0, .string ⟨#[]⟩] from rfl] at hE
      have HW := Lib.hid hw
      clear h1 hw hsm e0 hn hne
      go_enter Tryz.func9, Tryz.ntmps9
      go_wp2_with (first
        | (go_at_call 28; refine (c1 _ HW.out).mono ?_; rintro e w1 ⟨rfl, hbw⟩)
        | (refine wpList_alloc_arr _ rfl 3 rfl _ rfl uz zeroUrl ?_
           intro W3 g3 hg3 hl3 hR3 hG3
           have h3 : w.heap.size ≤ g3 := by have := hbw.size; omega
           replace hbw := below_row0 hbw hG3 (Nat.le_refl _))
        | (refine wpList_store_url rfl rfl _ _ rfl g3 (by exact rfl) #[.string ⟨#[]⟩, .string ⟨#[]⟩, .int .i64 0, .string ⟨#[]⟩, .int .u32 0, .int .u16 0, .int .u16 0, .int .u16 0, .int .u16 0, .int .u16 0, .int .u16 0, .int .u16 0, .int .u16 0, .int .i64 0, .string ⟨#[]⟩] (by exact rfl) uz hR3 rfl rfl hC1 ?_
           intro w4 hr3 hG4
           replace hbw := below_row hbw hG4 (Nat.le_refl _) h3)
        | (refine wpList_load_url (by rfl) _ rfl g3 (by exact rfl) #[.string ⟨#[]⟩, .string ⟨#[]⟩, .int .i64 0, .string ⟨#[]⟩, .int .u32 0, .int .u16 0, .int .u16 0, .int .u16 0, .int .u16 0, .int .u16 0, .int .u16 0, .int .u16 0, .int .u16 0, .int .i64 0, .string ⟨#[]⟩] hr3 rfl ?_)
        | (go_at_call 27; refine (cw _ (uw_below HW.out hbw)).mono ?_; rintro e w5 ⟨rfl, hb5⟩; replace hbw := hbw.trans (hb5.mono hbw.size)))
      go_ret
      exact ⟨rfl, hbw⟩
end

section
open Go.RowKit

/-- The list of the rows: the same for all of them. -/
abbrev laid4 : List (String × DataW Unit) := Rows.hostParseMatchesSpecRow.laid
theorem acc_data : (Rows.laid_unicode_utf8_acceptRanges : DataW Unit) = Lib.acceptData := by kernel_rfl
theorem fst_data : (Rows.laid_unicode_utf8_first : DataW Unit) = Lib.firstData := Pinned.utf8First_eq
theorem pow_data : (Rows.laid_internal_strconv_uint64pow10 : DataW Unit) = Lib.tabData .u64 Lib.pow10Tab := by kernel_rfl
theorem deb_data : ∃ zs : List Int, (Rows.laid_math_bits_deBruijn64tab : DataW Unit) = Lib.tabData .u8 zs ∧ zs.length = 64 ∧ zs.getD 15 0 = 4 :=
  ⟨Lib.deBruijn64tab.map fun (x : Nat) => (x : Int), by kernel_rfl, rfl, rfl⟩
/-- The variable's name. -/
def tabD : String := (Rows.hostParseMatchesSpecRow.named.tail.tail).head (List.cons_ne_nil _ _)
theorem u8_extra : U8Extra Tryz.prog Tryz.lays197_ren := ⟨by kernel_rfl, by kernel_rfl, by kernel_rfl, by kernel_rfl, by kernel_rfl, by kernel_rfl, by kernel_rfl⟩
/-- The variable's name. -/
def tabE : String := (Rows.hostParseMatchesSpecRow.named.tail.tail.tail).head (List.cons_ne_nil _ _)
theorem err_data : ∃ l : List UInt8, (Rows.laid_strconv_ErrSyntax : DataW Unit) = .iface "*errors.errorString" (.ptr (.agg [.lit (.string l)])) := ⟨_, rfl⟩
theorem err_star : "*" ++ "errors.errorString" = "*errors.errorString" := by decide
theorem err_row (u : TypeId) (h : Tryz.prog.typeName? 3 u = some "*errors.errorString") : u = 191 :=
  typeName_ptr_named (nm := "errors.errorString") (by rw [err_star]; kernel_rfl) (by kernel_rfl) (by decide) u (by rw [err_star]; exact h)
set_option maxRecDepth 20000 in
theorem hw_of_laid {W : World} (h : laidMetH Tryz.prog laid4 W) : Hw W := by
  rw [MakeChecks.laidMetH_plain _ _ _ (by kernel_rfl)] at h
  refine ⟨⟨?_, ?_⟩, ?_, ?_⟩
  · obtain ⟨rest, h3⟩ : ∃ rest, laidMet Tryz.prog ((tabN, Lib.tabData .u64 Lib.pow10Tab) :: rest) W := by
      rw [← pow_data]
      exact ⟨_, h.tail.tail⟩
    exact Lib.tabIs_of_head (g := 5) (t := 188) (e := 76) (n := 20) (by kernel_rfl) (by kernel_rfl) (by kernel_rfl) (by kernel_rfl) (by kernel_rfl) (by kernel_rfl) h3
  · obtain ⟨zs, he, hl, hz⟩ := deb_data
    obtain ⟨rest, h3⟩ : ∃ rest, laidMet Tryz.prog ((tabD, Lib.tabData .u8 zs) :: rest) W := by
      rw [← he]
      exact ⟨_, h.tail⟩
    have := (Lib.tabIs_of_head (g := 7) (t := 197) (e := 5) (n := 64) (by kernel_rfl) (by kernel_rfl) (by kernel_rfl) (by kernel_rfl) (by kernel_rfl) (by kernel_rfl) h3).cell (g := 7) (by kernel_rfl) 15 (by omega)
    rwa [hz] at this
  · exact utf8Tabs_of_reads { Tryz.lays197 with } u8_extra (fst_data ▸ Lib.laidMet.reads h (.tail _ (.tail _ (.tail _ (.tail _ (.tail _ (.tail _ (.head _)))))))) (acc_data ▸ Lib.laidMet.reads h (.tail _ (.tail _ (.tail _ (.head _)))))
  · obtain ⟨l, hl⟩ := err_data
    obtain ⟨rest, h3⟩ : ∃ rest, laidMet Tryz.prog ((tabE, .iface "*errors.errorString" (.ptr (.agg [.lit (.string l)]))) :: rest) W := by
      rw [← hl]
      exact ⟨_, h.tail.tail.tail.tail.tail⟩
    obtain ⟨a, s, hv, _⟩ := laid_sentinel (g := 3) (ti := 101) (tp := 191) (te := 193) (ts := 9) h3 (by kernel_rfl) (by kernel_rfl) Tryz.underlying101 (fun u hu => err_row u hu) Tryz.underlying191 Tryz.underlying193 rfl rfl tyStr (by kernel_rfl) (by kernel_rfl)
    exact ⟨_, _, by simpa using World.var?_cell (g := 3) (by kernel_rfl) hv 0⟩
end

section
open Go.RowKit

/-- The variable's name. -/
def tabR : String := (laid4.tail.tail.tail.tail.head (List.cons_ne_nil _ _)).1
theorem rng_data : ∃ l : List UInt8, (Rows.laid_strconv_ErrRange : DataW Unit) = .iface "*errors.errorString" (.ptr (.agg [.lit (.string l)])) := ⟨_, rfl⟩
set_option maxRecDepth 20000 in
theorem uw_of_laid {W : World} (h : laidMetH Tryz.prog laid4 W) : Uw W := by
  refine ⟨hw_of_laid h, ?_⟩
  rw [MakeChecks.laidMetH_plain _ _ _ (by kernel_rfl)] at h
  obtain ⟨l, hl⟩ := rng_data
  obtain ⟨rest, h3⟩ : ∃ rest, laidMet Tryz.prog ((tabR, .iface "*errors.errorString" (.ptr (.agg [.lit (.string l)]))) :: rest) W := by
    rw [← hl]
    exact ⟨_, h.tail.tail.tail.tail⟩
  obtain ⟨a, s, hv, _⟩ := laid_sentinel (g := 4) (ti := 101) (tp := 191) (te := 193) (ts := 9) h3 (by kernel_rfl) (by kernel_rfl) Tryz.underlying101 (fun u hu => err_row u hu) Tryz.underlying191 Tryz.underlying193 rfl rfl tyStr (by kernel_rfl) (by kernel_rfl)
  exact ⟨_, _, by simpa using World.var?_cell (g := 4) (by kernel_rfl) hv 0⟩
end

end Go.Proofs.YtpccpgihldpiiaaGreatDoor
