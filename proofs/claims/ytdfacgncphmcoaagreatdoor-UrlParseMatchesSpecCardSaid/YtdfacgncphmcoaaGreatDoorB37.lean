/-
The examples of the chapter on URLs hold.
What is parsed is small and good.
The reference's Parse of package url; the law that Parse is as specified.
What the statements' listed variables give: the library's tables and the error of a text that is no number.
What the statements' listed variables give for URLs: also the error of a number out of range.
Contract of allDigits of package ipv4.
Contract of Numeric of package ipv4.
make([]byte, 0, n). No function of the program.
Contracts of Format and Parse of package ipv4; strconv.AppendUint.
-/
import Derived.Test.YtdfacgncphmcoaaGreatDoorB26
import Derived.Test.YtdfacgncphmcoaaGreatDoorB36
import Derived.Test.YtdfacgncphmcoaaGreatDoorB22
import Derived.Test.YtdfacgncphmcoaaGreatDoorShelf
import Derived.PinnedBridge
import Derived.Lib.LaidU8
import Derived.Lib.LaidTab
import Derived.Lib.TrailingZeros
import Derived.MakeChecks
import Derived.Lay
import Derived.LaidOnce
import Derived.Stop.LaidErr
import Derived.Test.YtdfacgncphmcoaaGreatDoorB25
import Derived.Test.YtdfacgncphmcoaaGreatDoorB21
import Derived.Test.YtdfacgncphmcoaaGreatDoorB06
import Derived.Laws.MakeOwn
import Derived.Test.YtdfacgncphmcoaaGreatDoorB08
namespace Go.Proofs.YtdfacgncphmcoaaGreatDoor
section
open Go.RowKit Go.Shelf
def uA : Uv := ⟨[104, 116, 116, 112], [117, 58, 112], hvD [101, 120, 97, 109, 112, 108, 101, 46, 99, 111, 109], -1, [47, 63, 113]⟩
def uB : Uv := ⟨[104, 116, 116, 112], [], hvD [97], 443, [47]⟩
theorem ex15_a : parseUL [72, 84, 84, 80, 58, 47, 47, 117, 58, 112, 64, 69, 120, 97, 109, 112, 108, 101, 46, 99, 111, 109, 58, 56, 48, 63, 113] = (0, uA) := by kernel_rfl
theorem ex15_b : parseUL [104, 116, 116, 112, 58, 47, 47, 97, 58, 52, 52, 51, 47] = (0, uB) := by kernel_rfl
theorem ex15_c : parseUL [104, 116, 116, 112, 58, 47, 97] = (4, uv0) := by kernel_rfl
theorem ex15_d : (if validX (upU uB) = true then bs (textX (upU uB)) else ⟨#[]⟩) = ⟨#[104, 116, 116, 112, 115, 58, 47, 47, 97, 47]⟩ := by kernel_rfl
theorem hvA_wf : (hvD [97]).Wf := ⟨by decide, z8_wf.1, z8_wf.2⟩
theorem uB_sm : USm uB := ⟨hvA_wf, by decide, by decide, by decide, by decide, by decide, by decide⟩
theorem uB_up : USm (upU uB) := ⟨hvA_wf, by decide, by decide, by decide, by decide, by decide, by decide⟩
set_option maxRecDepth 20000 in
set_option maxHeartbeats 1000000 in
theorem awake15_any (hPar : HoPar 86) (hF : HoFmt 65) (w : World) (hw : Uw w) :
    Calls Tryz.prog 11 #[] w (Yes w) := by
  have c1 := fun W hW => Parse_any hPar ⟨#[72, 84, 84, 80, 58, 47, 47, 117, 58, 112, 64, 69, 120, 97, 109, 112, 108, 101, 46, 99, 111, 109, 58, 56, 48, 63, 113]⟩ W (by decide) hW
  have c2 := fun W hW => Parse_any hPar ⟨#[104, 116, 116, 112, 58, 47, 47, 97, 58, 52, 52, 51, 47]⟩ W (by decide) hW
  have c3 := fun W hW => Parse_any hPar ⟨#[104, 116, 116, 112, 58, 47, 97]⟩ W (by decide) hW
  have c4 := fun W => urlUpgrade_any uB uB_sm W
  have c5 := fun W hW => urlFormat_any hPar hF (upU uB) uB_up W hW
  simp only [ex15_d] at c5
  unfold UrlPost at c1 c2 c3
  simp only [show ls ⟨#[72, 84, 84, 80, 58, 47, 47, 117, 58, 112, 64, 69, 120, 97, 109, 112, 108, 101, 46, 99, 111, 109, 58, 56, 48, 63, 113]⟩ = [72, 84, 84, 80, 58, 47, 47, 117, 58, 112, 64, 69, 120, 97, 109, 112, 108, 101, 46, 99, 111, 109, 58, 56, 48, 63, 113] from rfl, ex15_a] at c1
  simp only [show ls ⟨#[104, 116, 116, 112, 58, 47, 47, 97, 58, 52, 52, 51, 47]⟩ = [104, 116, 116, 112, 58, 47, 47, 97, 58, 52, 52, 51, 47] from rfl, ex15_b] at c2
  simp only [show ls ⟨#[104, 116, 116, 112, 58, 47, 97]⟩ = [104, 116, 116, 112, 58, 47, 97] from rfl, ex15_c] at c3
  have hA : UC uA.cells ⟨#[104, 116, 116, 112]⟩ ⟨#[117, 58, 112]⟩ (bs uA.host.name) uA.host.cells (-1) ⟨#[47, 63, 113]⟩ := uc_facts uA
  have hB := urv_size uB
  have hB1 := urv_one uB
  have hZ := urv_size uv0
  have hZ1 := urv_one uv0
  generalize uA.cells = A at *
  generalize uA.host.cells = HA at *
  generalize bs uA.host.name = NA at *
  generalize uB.cells = B at *
  generalize uv0.cells = Z at *
  generalize (upU uB).cells = V at *
  have HW := Lib.hid hw
  clear hw
  go_enter Tryz.func11, Tryz.ntmps11
  go_wp2_with fail
  refine (c1 _ HW.out).mono ?_
  rintro e w1 ⟨rfl, hbw⟩
  go_wp2_with (first
    | (refine wpList_alloc_arr _ rfl 1 rfl _ rfl uz zeroUrl ?_
       intro W1 g1 hg1 hl1 hR1 hG1
       have h1 : w.heap.size ≤ g1 := by have := hbw.size; omega
       replace hbw := below_row0 hbw hG1 (Nat.le_refl _))
    | (refine wpList_store_url rfl rfl _ _ rfl g1 (by exact rfl) A (by exact rfl) uz hR1 rfl hA.sz hA.one ?_
       intro w2 hr1 hG2
       replace hbw := below_row hbw hG2 (Nat.le_refl _) h1))
  refine (c2 _ (uw_below HW.out hbw)).mono ?_
  rintro e w3 ⟨rfl, hb3⟩
  replace hr1 : RowU w3 g1 A := Row.below hr1 hb3 (Row.lt hr1)
  replace hbw := hbw.trans (hb3.mono hbw.size)
  clear hR1 hG1 hG2 hb3
  go_wp2_with (first
    | (refine wpList_alloc_arr _ rfl 3 rfl _ rfl uz zeroUrl ?_
       intro W3 g3 hg3 hl3 hR3 hG3
       have hne13 : g1 ≠ g3 := by have := Row.lt hr1; omega
       have h3 : w.heap.size ≤ g3 := by have := hbw.size; omega
       replace hr1 : RowU W3 g1 A := Row.grown0 hr1 hG3
       replace hbw := below_row0 hbw hG3 (Nat.le_refl _))
    | (refine wpList_store_url rfl rfl _ _ rfl g3 (by exact rfl) B (by exact rfl) uz hR3 rfl hB hB1 ?_
       intro w4 hr3 hG4
       replace hr1 : RowU w4 g1 A := Row.grown hr1 hG4 hne13
       replace hbw := below_row hbw hG4 (Nat.le_refl _) h3))
  refine (c3 _ (uw_below HW.out hbw)).mono ?_
  rintro e w5 ⟨rfl, hb5⟩
  replace hr1 : RowU w5 g1 A := Row.below hr1 hb5 (Row.lt hr1)
  replace hr3 : RowU w5 g3 B := Row.below hr3 hb5 (Row.lt hr3)
  replace hbw := hbw.trans (hb5.mono hbw.size)
  clear hR3 hG3 hG4 hb5
  go_wp2_with (first
    | (refine wpList_alloc_arr _ rfl 5 rfl _ rfl uz zeroUrl ?_
       intro W5 g5 hg5 hl5 hR5 hG5
       have hne15 : g1 ≠ g5 := by have := Row.lt hr1; omega
       have hne35 : g3 ≠ g5 := by have := Row.lt hr3; omega
       have h5 : w.heap.size ≤ g5 := by have := hbw.size; omega
       replace hr1 : RowU W5 g1 A := Row.grown0 hr1 hG5
       replace hr3 : RowU W5 g3 B := Row.grown0 hr3 hG5
       replace hbw := below_row0 hbw hG5 (Nat.le_refl _))
    | (refine wpList_store_url rfl rfl _ _ rfl g5 (by exact rfl) Z (by exact rfl) uz hR5 rfl hZ hZ1 ?_
       intro w6 hr5 hG6
       replace hr1 : RowU w6 g1 A := Row.grown hr1 hG6 hne15
       replace hr3 : RowU w6 g3 B := Row.grown hr3 hG6 hne35
       replace hbw := below_row hbw hG6 (Nat.le_refl _) h5
       obtain ⟨e0, e1, e3, e13, e14⟩ := hA.cell hr1)
    | (refine wpList_load_url (by rfl) _ rfl g3 (by exact rfl) B hr3 hB ?_)
    | (go_at_call 25; refine (c4 _).mono ?_; rintro e w7 ⟨rfl, hb7⟩
       replace hbw := hbw.trans (hb7.mono hbw.size))
    | (go_at_call 15; refine (c5 _ (uw_below HW.out hbw)).mono ?_; rintro e w8 ⟨rfl, hb8⟩
       replace hbw := hbw.trans (hb8.mono hbw.size)))
  go_ret
  exact ⟨rfl, hbw⟩
end

section
open Go.RowKit Go.Shelf
theorem uv0_sm : USm uv0 := ⟨hv0_wf, by decide, by decide, by decide, by decide, by decide, by decide⟩
theorem parseU_sm (l : List UInt8) (hl : l.length ≤ 99999990) : USm (parseU l).2 := by
  have hs : ∀ sch r : List UInt8, sch.length ≤ 99999990 → r.length ≤ 99999990 → USm (specP sch r).2 := by
    intro sch r h1 h2
    unfold specP
    split
    · have h3 := bef_len endA (r.drop 2)
      rw [List.length_drop] at h3
      have h4 := addr_len (befL endA (r.drop 2))
      unfold authP
      split
      · exact uv0_sm
      · rename_i q hq
        unfold hostP
        split
        · split
          · exact uv0_sm
          · rename_i p hp
            have h5 := portP_range hp
            have h6 := parseH_name q.1
            have h7 : (restP (fromL endA (r.drop 2))).length ≤ (fromL endA (r.drop 2)).length + 1 := by unfold restP; split <;> simp
            exact ⟨(parse_valid _).1, by show (parseH q.1).2.name.length ≤ _; omega, by show sch.length ≤ _; omega, by show (userL (befL endA (r.drop 2))).length ≤ _; omega, by show (restP (fromL endA (r.drop 2))).length ≤ _; omega, by show _ ≤ p; omega, by show p ≤ _; omega⟩
        · exact uv0_sm
    · exact uv0_sm
  have h1 := bef_len (isB 58) l
  have h2 : ((fromL (isB 58) l).drop 1).length ≤ 99999990 := by rw [List.length_drop]; omega
  have h3 : (lowL (befL (isB 58) l)).length ≤ 99999990 := by rw [low_len]; omega
  unfold parseU
  split
  · exact uv0_sm
  · split
    · split
      · exact hs _ _ h3 h2
      · exact ⟨hv0_wf, by show (0 : Nat) ≤ _; omega, by show (lowL (befL (isB 58) l)).length ≤ _; omega, by show (0 : Nat) ≤ _; omega, by show ((fromL (isB 58) l).drop 1).length ≤ _; omega, by show _ ≤ (-1 : Int); omega, by show (-1 : Int) ≤ _; omega⟩
    · exact uv0_sm
theorem parseUL_sm (l : List UInt8) : USm (parseUL l).2 := by
  unfold parseUL
  split
  · exact uv0_sm
  · exact parseU_sm l (by omega)
end

section
open Go.RowKit Go.Shelf
set_option maxRecDepth 20000 in
set_option maxHeartbeats 2000000 in
theorem refParse15_any (s : ByteArray) (w : World) :
    Calls Tryz.prog 13 #[.string s] w (UrlPost w (parseUL (ls s))) := by
  by_cases h1 : 2048 < s.size
  · have HP : Hid (parseUL (ls s) = (3, uv0)) := Lib.hid (by unfold parseUL; rw [ls_length, if_pos h1])
    have hd : decide ((2048 : Int) < (s.size : Int)) = true := decide_eq_true (by omega)
    clear h1
    go_enter Tryz.func13, Tryz.ntmps13
    go_wp2_with (first
      | (refine wpList_alloc_arr _ rfl 2 rfl _ rfl uz zeroUrl ?_
         intro W1 g2 hg2 hl2 hr2 hG
         have hbw := below_row0 (Below.refl w.heap.size w) hG (Nat.le_refl _))
      | (refine wpList_store_url rfl rfl _ _ rfl g2 (by exact rfl) uz (by exact rfl) uz hr2 rfl rfl (uc_one _ _ _ _ _ _ _ _) ?_
         intro w7 hr7 hG7
         have hb7 := below_row hbw hG7 (Nat.le_refl _) hg2))
    exact ret_url 2 3 rfl g2 rfl uz hr7 rfl _ rfl rfl ⟨by rw [HP.out]; rfl, hb7⟩
  · have HP : Hid (parseUL (ls s) = parseU (ls s)) := Lib.hid (by unfold parseUL; rw [ls_length, if_neg h1])
    have hd : decide ((2048 : Int) < (s.size : Int)) = false := decide_eq_false (by omega)
    have c7 := fun W => refParseU_any s W (by omega)
    unfold UrlPost at c7
    have hC := urv_size (parseU (ls s)).2
    have hC1 := urv_one (parseU (ls s)).2
    obtain ⟨C, hCe⟩ : ∃ C, C = (parseU (ls s)).2.cells := ⟨_, rfl⟩
    obtain ⟨n, hn⟩ : ∃ n, n = (parseU (ls s)).1 := ⟨_, rfl⟩
    rw [← hCe] at c7 hC hC1
    rw [← hn] at c7
    have HC := Lib.hid hCe
    have HN := Lib.hid hn
    clear h1 hCe hn
    go_enter Tryz.func13, Tryz.ntmps13
    go_wp2_with (first
      | (refine wpList_alloc_arr _ rfl 2 rfl _ rfl uz zeroUrl ?_
         intro W1 g2 hg2 hl2 hr2 hG
         have hbw := below_row0 (Below.refl w.heap.size w) hG (Nat.le_refl _))
      | (go_at_call 40; refine (c7 _).mono ?_; rintro e w5 ⟨rfl, hb5⟩
         replace hr2 : RowU w5 g2 uz := Row.below hr2 hb5 (Row.lt hr2)
         replace hbw := hbw.trans (hb5.mono hbw.size)
         clear hb5)
      | (refine wpList_store_url rfl rfl _ _ rfl g2 (by exact rfl) C (by exact rfl) uz hr2 rfl hC hC1 ?_
         intro w7 hr7 hG7
         have hb7 := below_row hbw hG7 (Nat.le_refl _) hg2))
    exact ret_url 2 3 rfl g2 rfl C hr7 hC _ rfl rfl ⟨by rw [HP.out, ← HC.out, ← HN.out]; rfl, hb7⟩
set_option maxRecDepth 20000 in
set_option maxHeartbeats 2000000 in
theorem walkUrPar (hPar : HoPar 86) (hF : HoFmt 65) (s : ByteArray) (w : World) (hsz : s.size ≤ maxLen) (hw : Uw w) :
    Calls Tryz.prog 3 #[.string s] w (Yes w) := by
  have cw := fun W hW => awake15_any hPar hF W hW
  unfold Yes at cw
  by_cases h1 : 2200 < s.size
  · have hd : decide ((2200 : Int) < (s.size : Int)) = true := decide_eq_true (by omega)
    have HW := Lib.hid hw
    clear h1 hw
    go_enter Tryz.func3, Tryz.ntmps3
    go_wp2_with (go_at_call 11; refine (cw _ HW.out).mono ?_; rintro e w1 ⟨rfl, hb⟩)
    go_ret
    exact ⟨rfl, hb⟩
  · have hd : decide ((2200 : Int) < (s.size : Int)) = false := decide_eq_false (by omega)
    have c1 := fun W hW => Parse_any hPar s W hsz hW
    have c2 := fun W => refParse15_any s W
    unfold UrlPost at c1 c2
    have hwf := (parseUL_sm (ls s)).wf
    have hC := urv_size (parseUL (ls s)).2
    have hC1 := urv_one (parseUL (ls s)).2
    have hE := fun W => eq_url (parseUL (ls s)).2 (parseUL (ls s)).2 hwf hwf W
    rw [eqU_self] at hE
    generalize (parseUL (ls s)).2.cells = C at *
    generalize (parseUL (ls s)).1 = n at *
    have HW := Lib.hid hw
    clear h1 hw hwf
    go_enter Tryz.func3, Tryz.ntmps3
    go_wp2_with fail
    refine (c1 _ HW.out).mono ?_
    rintro e w1 ⟨rfl, hbw⟩
    go_wp2_with (first
      | (refine wpList_alloc_arr _ rfl 3 rfl _ rfl uz zeroUrl ?_
         intro W3 g3 hg3 hl3 hR3 hG3
         have h3 : w.heap.size ≤ g3 := by have := hbw.size; omega
         replace hbw := below_row0 hbw hG3 (Nat.le_refl _))
      | (refine wpList_store_url rfl rfl _ _ rfl g3 (by exact rfl) C (by exact rfl) uz hR3 rfl hC hC1 ?_
         intro w4 hr3 hG4
         replace hbw := below_row hbw hG4 (Nat.le_refl _) h3))
    refine (c2 _).mono ?_
    rintro e w6 ⟨rfl, hb6⟩
    replace hr3 : RowU w6 g3 C := Row.below hr3 hb6 (Row.lt hr3)
    replace hbw := hbw.trans (hb6.mono hbw.size)
    clear hb6 hG3 hG4 hR3
    go_wp2_with (first
      | (refine wpList_alloc_arr _ rfl 5 rfl _ rfl uz zeroUrl ?_
         intro W7 g5 hg5 hl5 hR5 hG5
         have hne : g3 ≠ g5 := by have := Row.lt hr3; omega
         have h5 : w.heap.size ≤ g5 := by have := hbw.size; omega
         replace hr3 : RowU W7 g3 C := Row.grown0 hr3 hG5
         replace hbw := below_row0 hbw hG5 (Nat.le_refl _))
      | (refine wpList_store_url rfl rfl _ _ rfl g5 (by exact rfl) C (by exact rfl) uz hR5 rfl hC hC1 ?_
         intro w8 hr5 hG8
         replace hr3 : RowU w8 g3 C := Row.grown hr3 hG8 hne
         replace hbw := below_row hbw hG8 (Nat.le_refl _) h5)
      | (refine wpList_load_url (by rfl) _ rfl g3 (by exact rfl) C hr3 hC ?_)
      | (refine wpList_load_url (by rfl) _ rfl g5 (by exact rfl) C hr5 hC ?_)
      | (go_at_call 11; refine (cw _ (uw_below HW.out hbw)).mono ?_; rintro e w5 ⟨rfl, hb5⟩
         replace hbw := hbw.trans (hb5.mono hbw.size)))
    go_ret
    exact ⟨rfl, hbw⟩
end

section
open Go.RowKit
/-- The list of the rows: the same for all of them. -/
abbrev laid4 : List (String × DataW Unit) := Rows.urlParseMatchesSpecRow.laid
theorem acc_data : (Rows.laid_unicode_utf8_acceptRanges : DataW Unit) = Lib.acceptData := by kernel_rfl
theorem fst_data : (Rows.laid_unicode_utf8_first : DataW Unit) = Lib.firstData := Pinned.utf8First_eq
theorem pow_data : (Rows.laid_internal_strconv_uint64pow10 : DataW Unit) = Lib.tabData .u64 Lib.pow10Tab := by kernel_rfl
theorem deb_data : ∃ zs : List Int, (Rows.laid_math_bits_deBruijn64tab : DataW Unit) = Lib.tabData .u8 zs ∧ zs.length = 64 ∧ zs.getD 15 0 = 4 :=
  ⟨Lib.deBruijn64tab.map fun (x : Nat) => (x : Int), by kernel_rfl, rfl, rfl⟩
/-- The variable's name. -/
def tabD : String := (laid4.tail.head (List.cons_ne_nil _ _)).1
theorem u8_extra : U8Extra Tryz.prog Tryz.lays197_ren := ⟨by kernel_rfl, by kernel_rfl, by kernel_rfl, by kernel_rfl, by kernel_rfl, by kernel_rfl, by kernel_rfl⟩
/-- The variable's name. -/
def tabE : String := (laid4.tail.tail.tail.tail.tail.head (List.cons_ne_nil _ _)).1
theorem err_data : ∃ l : List UInt8, (Rows.laid_strconv_ErrSyntax : DataW Unit) = .iface "*errors.errorString" (.ptr (.agg [.lit (.string l)])) := ⟨_, rfl⟩
theorem err_star : "*" ++ "errors.errorString" = "*errors.errorString" := by decide
theorem err_row (u : TypeId) (h : Tryz.prog.typeName? 3 u = some "*errors.errorString") : u = 186 :=
  typeName_ptr_named (nm := "errors.errorString") (by rw [err_star]; kernel_rfl) (by kernel_rfl) (by decide) u (by rw [err_star]; exact h)
set_option maxRecDepth 20000 in
theorem hw_of_laid {W : World} (h : laidMetH Tryz.prog laid4 W) : Hw W := by
  rw [MakeChecks.laidMetH_plain _ _ _ (by kernel_rfl)] at h
  refine ⟨⟨?_, ?_⟩, ?_, ?_⟩
  · obtain ⟨rest, h3⟩ : ∃ rest, laidMet Tryz.prog ((tabN, Lib.tabData .u64 Lib.pow10Tab) :: rest) W := by
      rw [← pow_data]
      exact ⟨_, h.tail.tail⟩
    exact Lib.tabIs_of_head (g := 1) (t := 157) (e := 94) (n := 20) (by kernel_rfl) (by kernel_rfl) (by kernel_rfl) (by kernel_rfl) (by kernel_rfl) (by kernel_rfl) h3
  · obtain ⟨zs, he, hl, hz⟩ := deb_data
    obtain ⟨rest, h3⟩ : ∃ rest, laidMet Tryz.prog ((tabD, Lib.tabData .u8 zs) :: rest) W := by
      rw [← he]
      exact ⟨_, h.tail⟩
    have := (Lib.tabIs_of_head (g := 7) (t := 190) (e := 5) (n := 64) (by kernel_rfl) (by kernel_rfl) (by kernel_rfl) (by kernel_rfl) (by kernel_rfl) (by kernel_rfl) h3).cell (g := 7) (by kernel_rfl) 15 (by omega)
    rwa [hz] at this
  · exact utf8Tabs_of_reads { Tryz.lays197 with } u8_extra (fst_data ▸ Lib.laidMet.reads h (.tail _ (.tail _ (.tail _ (.tail _ (.tail _ (.tail _ (.head _)))))))) (acc_data ▸ Lib.laidMet.reads h (.tail _ (.tail _ (.tail _ (.head _)))))
  · obtain ⟨l, hl⟩ := err_data
    obtain ⟨rest, h3⟩ : ∃ rest, laidMet Tryz.prog ((tabE, .iface "*errors.errorString" (.ptr (.agg [.lit (.string l)]))) :: rest) W := by
      rw [← hl]
      exact ⟨_, h.tail.tail.tail.tail.tail⟩
    obtain ⟨a, s, hv, _⟩ := laid_sentinel (g := 4) (ti := 96) (tp := 186) (te := 188) (ts := 9) h3 (by kernel_rfl) (by kernel_rfl) Tryz.underlying96 (fun u hu => err_row u hu) Tryz.underlying186 Tryz.underlying188 rfl rfl tyStr (by kernel_rfl) (by kernel_rfl)
    exact ⟨_, _, by simpa using World.var?_cell (g := 4) (by kernel_rfl) hv 0⟩
end

section
open Go.RowKit
/-- The variable's name. -/
def tabR : String := (laid4.tail.tail.tail.tail.head (List.cons_ne_nil _ _)).1
theorem rng_data : ∃ l : List UInt8, (Rows.laid_strconv_ErrRange : DataW Unit) = .iface "*errors.errorString" (.ptr (.agg [.lit (.string l)])) := ⟨_, rfl⟩
set_option maxRecDepth 20000 in
theorem uw_of_laid {W : World} (h : laidMetH Tryz.prog laid4 W) : Uw W := by
  refine ⟨hw_of_laid h, ?_⟩
  rw [MakeChecks.laidMetH_plain _ _ _ (by kernel_rfl)] at h
  obtain ⟨l, hl⟩ := rng_data
  obtain ⟨rest, h3⟩ : ∃ rest, laidMet Tryz.prog ((tabR, .iface "*errors.errorString" (.ptr (.agg [.lit (.string l)]))) :: rest) W := by
    rw [← hl]
    exact ⟨_, h.tail.tail.tail.tail⟩
  obtain ⟨a, s, hv, _⟩ := laid_sentinel (g := 5) (ti := 96) (tp := 186) (te := 188) (ts := 9) h3 (by kernel_rfl) (by kernel_rfl) Tryz.underlying96 (fun u hu => err_row u hu) Tryz.underlying186 Tryz.underlying188 rfl rfl tyStr (by kernel_rfl) (by kernel_rfl)
  exact ⟨_, _, by simpa using World.var?_cell (g := 5) (by kernel_rfl) hv 0⟩
end

section
open Go.RowKit
theorem allDigits_any (s : ByteArray) (hs : s.size ≤ 1000000000) (b : Nat) (hb : b ≤ 16) (w : World) :
    Calls Tryz.prog 147 #[.string s, .int .u64 b] w fun e w' => e = .returned (.bool ((ls s).all (fun c => decide (digV c < b)))) ∧ w = w' := by
  go_enter Tryz.func147, Tryz.ntmps147
  go_wp2
  go_loop [8] (fun i => ∃ k : Nat, k ≤ s.size ∧ i = .int .i64 k ∧ Hid ((ls s).all (fun c => decide (digV c < b)) = ((ls s).drop k).all (fun c => decide (digV c < b)))) (fun i => s.size - (intOf i).toNat)
  case atStart => exact ⟨0, Nat.zero_le _, rfl, Lib.hid rfl⟩
  case round =>
    obtain ⟨k, hk, rfl, HA⟩ := hrel
    by_cases hlt : k < s.size
    · have hd := digit_any s[k]
      have HD : Hid (((ls s).drop k).all (fun c => decide (digV c < b)) = (decide (digV s[k] < b) && ((ls s).drop (k + 1)).all (fun c => decide (digV c < b)))) := by
        show _ = _
        rw [drop_ls_cons s k hlt, List.all_cons]
      by_cases hg : digV s[k] < b
      · have hge : decide ((b : Int) ≤ ((pd s[k] : Nat) : Int)) = false := decide_eq_false (by have := (pd_lt s[k] b hb).2 hg; omega)
        have HN : Hid ((ls s).all (fun c => decide (digV c < b)) = ((ls s).drop (k + 1)).all (fun c => decide (digV c < b))) := by
          show _ = _
          rw [HA.out, HD.out, decide_eq_true hg, Bool.true_and]
        clear hg
        generalize ((pd s[k] : Nat) : Int) = d at *
        go_wp2_with (go_at_call 176; refine (hd _).mono ?_; rintro e w' ⟨rfl, rfl⟩)
        go_round
        case rel => exact ⟨k + 1, by omega, by go_num, HN⟩
        case measure => simp [intOf]; omega
      · have hge : decide ((b : Int) ≤ ((pd s[k] : Nat) : Int)) = true := decide_eq_true (by have := mt (pd_lt s[k] b hb).1 hg; omega)
        have HN : Hid ((ls s).all (fun c => decide (digV c < b)) = false) := by
          show _ = _
          rw [HA.out, HD.out, decide_eq_false hg, Bool.false_and]
        clear hg
        generalize ((pd s[k] : Nat) : Int) = d at *
        go_wp2_with (go_at_call 176; refine (hd _).mono ?_; rintro e w' ⟨rfl, rfl⟩)
        go_ret
        exact ⟨ret_bool HN.out.symm, rfl⟩
    · obtain rfl : k = s.size := by omega
      have HN : Hid ((ls s).all (fun c => decide (digV c < b)) = true) := by
        show _ = _
        rw [HA.out, drop_ls_all]
        rfl
      go_wp2
      go_ret
      exact ⟨ret_bool HN.out.symm, rfl⟩
end

section
open Go.RowKit
theorem num_any (s : ByteArray) (hs : s.size ≤ 1000000000) (w : World) :
    Calls Tryz.prog 111 #[.string s] w fun e w' => e = .returned (.bool (numericL (ls s))) ∧ w = w' := by
  have c1 := undot_any s hs w
  obtain ⟨T, hT⟩ : ∃ T, T = bs (undot (ls s)) := ⟨_, rfl⟩
  rw [← hT] at c1
  have hTs : T.size ≤ 1000000000 := by rw [hT, bs_size]; have := undot_le (ls s); rw [ls_length] at this; omega
  obtain ⟨i, hi, hib, hlast⟩ := last_index T
  have c2 := fun W => Any.strings_LastIndexByte Tryz.lays149 T 46 (by omega) W
  obtain ⟨x, hx⟩ : ∃ x, x = Lib.lastIndexByte T 46 := ⟨_, rfl⟩
  rw [← hx] at c2 hi
  obtain ⟨X, hX⟩ : ∃ X, X = T.extract i T.size := ⟨_, rfl⟩
  have hL : ls X = (ls T).drop i := by
    rw [hX, ls_extract]
    exact List.take_of_length_le (by rw [List.length_drop, ls_length]; omega)
  have hXs : X.size ≤ 1000000000 := by rw [hX, ByteArray.size_extract]; omega
  have hV : numericL (ls s) = if hexP (ls X) = true then ((ls X).drop 2).all (fun c => decide (digV c < 16)) else (!(ls X).isEmpty && (ls X).all (fun c => decide (digV c < 10))) := by
    rw [numeric_last, ← lastNum_eq, hL, ← hlast, hT, ls_bs]
  have c3 := isHex_any X
  have hx0 : -1 ≤ x := by omega
  have hx1 : x ≤ 1000000000 := by omega
  have hxi : x = (i : Int) - 1 := by omega
  subst hxi
  have hii : (i : Int) - 1 + 1 = (i : Int) := by omega
  have HX := Lib.hid hX
  clear hT hlast hL hx hi hX
  by_cases hh : hexP (ls X) = true
  · rw [if_pos hh] at hV
    rw [hh] at c3
    obtain ⟨b, r, e, _⟩ := (hexP_iff _).1 hh
    have h2 : 2 ≤ X.size := by rw [← ls_length, e]; simp
    have c4 := allDigits_any (X.extract 2 X.size) (by rw [ByteArray.size_extract]; omega) 16 (by omega)
    have e2 : ls (X.extract 2 X.size) = (ls X).drop 2 := by
      rw [ls_extract]
      exact List.take_of_length_le (by rw [List.length_drop, ls_length]; exact Nat.le_refl _)
    rw [e2] at c4
    have HV := Lib.hid hV
    generalize ((ls X).drop 2).all (fun c => decide (digV c < 16)) = q at *
    clear hV hh e e2
    go_enter Tryz.func111, Tryz.ntmps111
    go_wp2_with fail
    refine c1.mono ?_
    rintro e w' ⟨rfl, rfl⟩
    go_wp2_with fail
    refine (c2 _).mono ?_
    rintro e w' ⟨rfl, rfl⟩
    go_wp2_with fail
    rw [← HX.out]
    refine (c3 _).mono ?_
    rintro e w' ⟨rfl, rfl⟩
    go_wp2_with fail
    refine (c4 _).mono ?_
    rintro e w' ⟨rfl, rfl⟩
    go_wp2
    go_ret
    exact ⟨ret_bool HV.out.symm, rfl⟩
  · rw [if_neg hh] at hV
    rw [Bool.not_eq_true] at hh
    rw [hh] at c3
    have hemp : (ls X).isEmpty = decide (X.size = 0) := isEmpty_ls X
    by_cases h0 : X.size = 0
    · have hE : X.toList = ([] : List UInt8) := by rw [toList_ls]; exact List.eq_nil_of_length_eq_zero (by rw [ls_length]; exact h0)
      have HV : Hid (numericL (ls s) = false) := by show _ = _; rw [hV, hemp, decide_eq_true h0]; rfl
      clear hV hh hemp
      go_enter Tryz.func111, Tryz.ntmps111
      go_wp2_with fail
      refine c1.mono ?_
      rintro e w' ⟨rfl, rfl⟩
      go_wp2_with fail
      refine (c2 _).mono ?_
      rintro e w' ⟨rfl, rfl⟩
      go_wp2_with fail
      rw [← HX.out]
      refine (c3 _).mono ?_
      rintro e w' ⟨rfl, rfl⟩
      go_wp2
      go_ret
      exact ⟨ret_bool HV.out.symm, rfl⟩
    · have hE : ¬ X.toList = ([] : List UInt8) := by rw [toList_ls]; exact ls_some X (Nat.pos_of_ne_zero h0)
      have hE2 : X.toList.isEmpty = false := by rw [toList_ls, hemp, decide_eq_false h0]
      have c4 := allDigits_any X hXs 10 (by omega)
      have HV : Hid (numericL (ls s) = (ls X).all (fun c => decide (digV c < 10))) := by show _ = _; rw [hV, hemp, decide_eq_false h0]; rfl
      generalize (ls X).all (fun c => decide (digV c < 10)) = q at *
      clear hV hh hemp
      go_enter Tryz.func111, Tryz.ntmps111
      go_wp2_with fail
      refine c1.mono ?_
      rintro e w' ⟨rfl, rfl⟩
      go_wp2_with fail
      refine (c2 _).mono ?_
      rintro e w' ⟨rfl, rfl⟩
      go_wp2_with fail
      rw [← HX.out]
      refine (c3 _).mono ?_
      rintro e w' ⟨rfl, rfl⟩
      go_wp2_with fail
      refine (c4 _).mono ?_
      rintro e w' ⟨rfl, rfl⟩
      go_wp2
      go_ret
      exact ⟨ret_bool HV.out.symm, rfl⟩
end

section
open Go.RowKit
/-- make([]byte, 0, c). -/
theorem wpList_make_room (w : World) {ops : Array Oper} {rest : List Oper} {o : Oper} {a : Act} {Q : Exit → Act → World → Prop}
    (hg : o.guard = none) (l c : Operand) (hop : o.op = Op.makeSlice 40 l c) (n : Int) (hl : a.eval l = .int .i64 0) (hc : a.eval c = .int .i64 n) (h0 : 0 ≤ n) (hn : n ≤ 4000000000)
    (h : ∀ v' w', w'.ownsRow w.heap.size 5 1 v' 0 [] → Below w.heap.size w w' → wpList Tryz.prog ops Q rest (a.put o.dst v') w') : wpList Tryz.prog ops Q (o :: rest) a w := by
  refine wpList_plain hg fun K hK' => ?_
  obtain ⟨i, hi, hz0, hz1, hz2⟩ := info_parts infoU8
  have hrun := run_make (P := Tryz.prog) w 40 5 i (.int .u8 0) tyBs hi hz0 .i64 .i64 0 n (by omega) (by omega) (by rw [hz2]; omega) (by omega)
  rw [hz1, Nat.mul_one] at hrun
  have hm : madeCells (Value.int .u8 0).cells n.toNat = zeros n.toNat := made_u8 _
  rw [hm] at hrun
  have := h (.slice (some ⟨w.heap.size, 0, none⟩) 0 n.toNat) (w.alloc (.cells (zeros n.toNat) 5))
    ⟨rfl, .inr ⟨w.heap.size, n.toNat, zeros n.toNat, rfl, Nat.le_refl _, by show (w.heap.push _)[w.heap.size]? = _; simp, Nat.zero_le _, by unfold maxLen; omega, by simp [zeros], by simp⟩⟩
    ((Below.refl _ _).alloc (Nat.le_refl _) _)
  unfold Oper.wp
  simp [execOp, hop, hl, hc, hrun, Result.andThen]
  exact hK' _ _ this
end

section
open Go.RowKit
theorem append_any (B n u : Nat) (hu : u < 18446744073709551616) (sv : Value) (l : List UInt8) (w : World) (hp : Pow w) (hown : w.ownsRow B 5 1 sv n (l.map bv)) (hB : B ≤ w.heap.size) (hn : n ≤ 1000000000) :
    Calls Tryz.prog 124 #[sv, .int .u64 u, .int .i64 10] w fun e w' => ∃ v', e = .returned v' ∧ w'.ownsRow B 5 1 v' (n + (Lib.decDigits u).length) ((l ++ Lib.decDigits u).map bv) ∧ Below B w w' := by
  have c1 := Any.internal_strconv_AppendUint_10 Tryz.laysM288 B n u hu sv (l.map bv) w hown hB (by omega) hp
  have HM : Hid (∀ m : List UInt8, l.map bv ++ Lib.byteCells m = (l ++ m).map bv) := by
    show ∀ m : List UInt8, _ = _
    intro m
    rw [List.map_append]
    rfl
  clear hown hp
  go_enter Tryz.func124, Tryz.ntmps124
  go_wp2_with fail
  refine c1.mono ?_
  rintro e w' ⟨v', rfl, h1, h2, _⟩
  rw [HM.out] at h1
  go_wp2
  go_ret
  exact ⟨_, rfl, h1, h2⟩
set_option maxRecDepth 20000 in
set_option maxHeartbeats 4000000 in
theorem fmt_any (v : Int) (hv0 : 0 ≤ v) (hv1 : v < 4294967296) (w : World) (hp : Pow w) :
    Calls Tryz.prog 95 #[.int .u32 v] w fun e w' => e = .returned (.string (bs (fmtI v.toNat))) ∧ Below w.heap.size w w' := by
  obtain ⟨i5, hi5, hz0, hz1, hz2⟩ := info_parts infoU8
  have hF : fmtF v.toNat 4 = fmtI v.toNat := fmtF_all _ (by omega)
  have HF := Lib.hid hF
  clear hF
  go_enter Tryz.func95, Tryz.ntmps95
  go_wp2_with (refine wpList_make_room _ rfl _ _ rfl 15 rfl rfl (by decide) (by decide) ?_; intro v0 w0 hown0 hb0)
  go_loopg [3, 7] 4 (fun g t i wr => ∃ k : Nat, k ≤ 4 ∧ g = 4 - k ∧ i = .int .i64 k ∧ wr.ownsRow w.heap.size 5 1 t (fmtF v.toNat k).length ((fmtF v.toNat k).map bv) ∧ Below w.heap.size w wr)
  case atStart => exact ⟨0, by omega, rfl, rfl, hown0, hb0⟩
  case round =>
    obtain ⟨k, hk, hg, rfl, hown, hb⟩ := hrel
    have HG := Lib.hid hg
    clear hg
    have hlen := fmtF_length v.toNat k
    by_cases hk4 : k < 4
    · obtain ⟨K, hK⟩ : ∃ K, K = 8 * (3 - k) := ⟨_, rfl⟩
      have hKK : (8 : Int) * (3 - (k : Int)) = (K : Int) := by omega
      have hK32 : K ≤ 32 := by omega
      obtain ⟨r, hr⟩ : ∃ r : Nat, r = v.toNat / 2 ^ K := ⟨_, rfl⟩
      have hrv : v / 2 ^ K = (r : Int) := by
        rw [hr, Int.natCast_ediv, Int.natCast_pow, show ((v.toNat : Nat) : Int) = v by omega]
        rfl
      have HR := Lib.hid hrv
      have hrb : r < 4294967296 := by
        rw [hr]
        exact Nat.lt_of_le_of_lt (Nat.div_le_self _ _) (by omega)
      obtain ⟨u, hu⟩ : ∃ u, u = r % 256 := ⟨_, rfl⟩
      have hand : bits .and .u64 (r : Int) 255 = (u : Int) := by
        have := u64_and_nat r 255 (by omega) (by omega)
        rw [show ((255 : Nat) : Int) = 255 from rfl] at this
        rw [this, hu, show 255 = 2 ^ 8 - 1 from rfl, Nat.and_two_pow_sub_one_eq_mod]
      have hwr : IntKind.u64.wrap (r : Int) = (r : Int) := by rw [IntKind.wrap_u64]; omega
      have hdec : Lib.decDigits (v.toNat / 256 ^ (3 - k) % 256) = Lib.decDigits u := by
        rw [hu, hr, hK, Nat.pow_mul]
      have hub : u < 256 := by omega
      have hdl := dec_len3 u hub
      by_cases h0 : k = 0
      · have HN : Hid (fmtF v.toNat (k + 1) = fmtF v.toNat k ++ Lib.decDigits u) := by
          show _ = _
          rw [fmtF, hdec, if_pos h0]
          rfl
        have hd : decide ((0 : Int) < (k : Int)) = false := decide_eq_false (by omega)
        have hdN : decide (0 < k) = false := decide_eq_false (by omega)
        have HU := Lib.hid (show u < 18446744073709551616 by omega)
        clear hK hr hrv hu hdec h0
        go_wp2_with (refine wpList_shr32 _ rfl _ _ _ _ rfl (by kernel_rfl) _ K hK32 (by exact rfl) (by exact rfl) _ HR.out ?_)
        refine (append_any w.heap.size _ u HU.out _ _ _ (pow_below hp hb) hown hb.size (by omega)).mono ?_
        rintro e w1 ⟨v1, rfl, hown1, hb1⟩
        replace hb1 := hb.trans hb1
        have hl : (fmtF v.toNat (k + 1)).length = (fmtF v.toNat k).length + (Lib.decDigits u).length := by rw [HN.out, List.length_append]
        rw [← HN.out, ← hl] at hown1
        go_wp2
        go_roundg (4 - (k + 1))
        case rel => exact ⟨k + 1, by omega, rfl, by go_num, hown1, hb1⟩
        case measure => rw [HG.out]; omega
      · have HN : Hid (fmtF v.toNat (k + 1) = (fmtF v.toNat k ++ [46]) ++ Lib.decDigits u) := by
          show _ = _
          rw [fmtF, hdec, if_neg h0, List.append_assoc]
        have hd : decide ((0 : Int) < (k : Int)) = true := decide_eq_true (by omega)
        have hdN : decide (0 < k) = true := decide_eq_true (by omega)
        have HU := Lib.hid (show u < 18446744073709551616 by omega)
        clear hK hr hrv hu hdec h0
        go_wp2_with (at_builtin; refine wpList_app_one wr rfl _ _ 40 rfl w.heap.size 5 i5 (.int .u8 0) 1 tyBs hi5 hz0 hz1 hz2 rfl _ (by exact rfl) _ _ _ (by exact rfl) hown (by exact rfl) (by unfold maxLen; omega) (by omega) hb (Nat.le_refl _) ?_; intro v2 w2 hown2 hb2 hgr)
        rw [show (fmtF v.toNat k).map bv ++ [Value.int .u8 46] = (fmtF v.toNat k ++ [46]).map bv by rw [List.map_append]; rfl] at hown2
        go_wp2_with fail
        rw [HR.out, hwr, hand]
        refine (append_any w.heap.size _ u HU.out _ _ _ (pow_below hp hb2) hown2 hb2.size (by omega)).mono ?_
        rintro e w1 ⟨v1, rfl, hown1, hb1⟩
        replace hb1 := hb2.trans hb1
        have hl : (fmtF v.toNat (k + 1)).length = (fmtF v.toNat k).length + 1 + (Lib.decDigits u).length := by rw [HN.out, List.length_append, List.length_append]; rfl
        rw [← HN.out, ← hl] at hown1
        go_wp2
        go_roundg (4 - (k + 1))
        case rel => exact ⟨k + 1, by omega, rfl, by go_num, hown1, hb1⟩
        case measure => rw [HG.out]; omega
    · obtain rfl : k = 4 := by omega
      have hconv := str_owned wr _ _ _ _ hown
      rw [HF.out] at hconv
      go_wp2
      go_ret
      exact ⟨rfl, hb⟩
theorem par_any (s : ByteArray) (w : World) (hs : s.size ≤ 1000000000) (hp : Pow w) :
    Calls Tryz.prog 174 #[.string s] w fun e w' => e = .returned (.tuple #[.int .u32 (aV (parseL (ls s))), .bool (aK (parseL (ls s)))]) ∧ Below w.heap.size w w' := by
  have c1 := pn_any s hs w
  cases hq : pnL (ls s) with
  | none =>
    have HE : Hid (parseL (ls s) = none) := by show _ = _; rw [parse_pn, hq]
    rw [hq, show aV (none : Option Nat) = 0 from rfl, show aK (none : Option Nat) = false from rfl] at c1
    clear hq
    go_enter Tryz.func174, Tryz.ntmps174
    go_wp2_with fail
    refine c1.mono ?_
    rintro e w' ⟨rfl, rfl⟩
    go_wp2
    go_ret2
    rw [HE.out]
    exact ⟨rfl, Below.refl _ _⟩
  | some v =>
    have hv := pnL_range hq
    have c2 := fmt_any (v : Int) (by omega) (by omega) w hp
    rw [show ((v : Int)).toNat = v from rfl] at c2
    rw [hq, show aV (some v) = (v : Int) from rfl, show aK (some v) = true from rfl] at c1
    by_cases hf : fmtI v = ls s
    · have HE : Hid (parseL (ls s) = some v) := by show _ = _; rw [parse_pn, hq]; exact if_pos hf
      rw [hf, bs_ls] at c2
      clear hq hf
      go_enter Tryz.func174, Tryz.ntmps174
      go_wp2_with fail
      refine c1.mono ?_
      rintro e w' ⟨rfl, hw⟩
      subst hw
      go_wp2_with fail
      refine c2.mono ?_
      rintro e w2 ⟨rfl, hb⟩
      go_wp2
      go_ret2
      rw [HE.out]
      exact ⟨rfl, hb⟩
    · have HE : Hid (parseL (ls s) = none) := by show _ = _; rw [parse_pn, hq]; exact if_neg hf
      obtain ⟨X, hX⟩ : ∃ X, X = bs (fmtI v) := ⟨_, rfl⟩
      have hne : ¬ X.toList = s.toList := by
        rw [toList_ls, toList_ls, hX, ls_bs]
        exact hf
      have hn2 : (X.toList == s.toList) = false := beq_eq_false_iff_ne.2 hne
      have hn3 : (!X.toList == s.toList) = true := by rw [hn2]; rfl
      rw [← hX] at c2
      clear hq hf hX
      go_enter Tryz.func174, Tryz.ntmps174
      go_wp2_with fail
      refine c1.mono ?_
      rintro e w' ⟨rfl, hw⟩
      subst hw
      go_wp2_with fail
      refine c2.mono ?_
      rintro e w2 ⟨rfl, hb⟩
      go_wp2
      go_ret2
      rw [HE.out]
      exact ⟨rfl, hb⟩
end

end Go.Proofs.YtdfacgncphmcoaaGreatDoor
